import PyProof.Rows.All
import Wide.All
import OpenK.AllK
import Wide.FinOn
import Lean
import PyProof.EqAt
import PyProof.EqKinds
import PyProof.TupleCall
import PySem.Challenge.RW_lazyhoist_k70_still_papers_laid
set_option bootstrap.genMatcherCode false
set_option genSizeOf false
set_option tactic.hygienic false
set_option Elab.async false
set_option linter.all false
set_option maxRecDepth 100000
noncomputable section
set_option hygiene false
local macro_rules|`(command|abbrev $i $s:optDeclSig $v)=>`(command|noncomputable def $i $s:optDeclSig $v)
def rp:Nat→Lean.Syntax→Lean.MacroM (Lean.TSyntax `rcasesPat)
|0,_=>Lean.Macro.throwUnsupported
|n+1,x=>match x with
|`(⟨$a,*⟩)=>do let q←a.getElems.mapM λx=>rp n x;`(rcasesPat|⟨$[$q],*⟩)
|`(_)=>`(rcasesPat|_)
|x=>`(rcasesPat|$(⟨x⟩):ident)
local macro_rules|`(tactic|let $d:letDecl)=>`(tactic|have $d:letDecl)
section
variable{α β γ δ ε ζ:Sort _}{Z:Prop}
theorem E03{A B C:Prop}(h:A∧B∧C)(f:A→B→C→Z):Z:=f h.1 h.2.1 h.2.2
theorem E13{A B:α→Prop}(h:∃x,A x∧B x)(f:∀x,A x→B x→Z):Z:=h.elim λx h=>f x h.1 h.2
theorem E23{A:α→β→Prop}(h:∃x y,A x y)(f:∀x y,A x y→Z):Z:=h.elim λx h=>h.elim (f x)
theorem E04{A B C D:Prop}(h:A∧B∧C∧D)(f:A→B→C→D→Z):Z:=by obtain⟨a,b,c,d⟩:=h;exact f a b c d
theorem E14{A B C:α→Prop}(h:∃x,A x∧B x∧C x)(f:∀x,A x→B x→C x→Z):Z:=by obtain⟨x,a,b,c⟩:=h;exact f x a b c
theorem E24{A B:α→β→Prop}(h:∃x y,A x y∧B x y)(f:∀x y,A x y→B x y→Z):Z:=by obtain⟨x,y,a,b⟩:=h;exact f x y a b
theorem E34{A:α→β→γ→Prop}(h:∃x y z,A x y z)(f:∀x y z,A x y z→Z):Z:=by obtain⟨x,y,z,a⟩:=h;exact f x y z a
theorem E05{A B C D E:Prop}(h:A∧B∧C∧D∧E)(f:A→B→C→D→E→Z):Z:=by obtain⟨a,b,c,d,e⟩:=h;exact f a b c d e
theorem E15{A B C D:α→Prop}(h:∃x,A x∧B x∧C x∧D x)(f:∀x,A x→B x→C x→D x→Z):Z:=by obtain⟨x,a,b,c,d⟩:=h;exact f x a b c d
theorem E25{A B C:α→β→Prop}(h:∃x y,A x y∧B x y∧C x y)(f:∀x y,A x y→B x y→C x y→Z):Z:=by obtain⟨x,y,a,b,c⟩:=h;exact f x y a b c
theorem E35{A B:α→β→γ→Prop}(h:∃x y z,A x y z∧B x y z)(f:∀x y z,A x y z→B x y z→Z):Z:=by obtain⟨x,y,z,a,b⟩:=h;exact f x y z a b
theorem E06{A B C D E F:Prop}(h:A∧B∧C∧D∧E∧F)(f:A→B→C→D→E→F→Z):Z:=by obtain⟨a,b,c,d,e,g⟩:=h;exact f a b c d e g
theorem E16{A B C D E:α→Prop}(h:∃x,A x∧B x∧C x∧D x∧E x)(f:∀x,A x→B x→C x→D x→E x→Z):Z:=by obtain⟨x,a,b,c,d,e⟩:=h;exact f x a b c d e
theorem E26{A B C D:α→β→Prop}(h:∃x y,A x y∧B x y∧C x y∧D x y)(f:∀x y,A x y→B x y→C x y→D x y→Z):Z:=by obtain⟨x,y,a,b,c,d⟩:=h;exact f x y a b c d
theorem E36{A B C:α→β→γ→Prop}(h:∃x y z,A x y z∧B x y z∧C x y z)(f:∀x y z,A x y z→B x y z→C x y z→Z):Z:=by obtain⟨x,y,z,a,b,c⟩:=h;exact f x y z a b c
theorem E46{A B:α→β→γ→δ→Prop}(h:∃x y z u,A x y z u∧B x y z u)(f:∀x y z u,A x y z u→B x y z u→Z):Z:=by obtain⟨x,y,z,u,a,b⟩:=h;exact f x y z u a b
theorem E07{A B C D E F G:Prop}(h:A∧B∧C∧D∧E∧F∧G)(f:A→B→C→D→E→F→G→Z):Z:=by obtain⟨a,b,c,d,e,g,h⟩:=h;exact f a b c d e g h
theorem E27{A B C D E:α→β→Prop}(h:∃x y,A x y∧B x y∧C x y∧D x y∧E x y)(f:∀x y,A x y→B x y→C x y→D x y→E x y→Z):Z:=by obtain⟨x,y,a,b,c,d,e⟩:=h;exact f x y a b c d e
theorem E37{A B C D:α→β→γ→Prop}(h:∃x y z,A x y z∧B x y z∧C x y z∧D x y z)(f:∀x y z,A x y z→B x y z→C x y z→D x y z→Z):Z:=by obtain⟨x,y,z,a,b,c,d⟩:=h;exact f x y z a b c d
theorem E57{A B:α→β→γ→δ→ε→Prop}(h:∃x y z u v,A x y z u v∧B x y z u v)(f:∀x y z u v,A x y z u v→B x y z u v→Z):Z:=by obtain⟨x,y,z,u,v,a,b⟩:=h;exact f x y z u v a b
theorem E28{A B C D E F:α→β→Prop}(h:∃x y,A x y∧B x y∧C x y∧D x y∧E x y∧F x y)(f:∀x y,A x y→B x y→C x y→D x y→E x y→F x y→Z):Z:=by obtain⟨x,y,a,b,c,d,e,g⟩:=h;exact f x y a b c d e g
theorem E48{A B C D:α→β→γ→δ→Prop}(h:∃x y z u,A x y z u∧B x y z u∧C x y z u∧D x y z u)(f:∀x y z u,A x y z u→B x y z u→C x y z u→D x y z u→Z):Z:=by obtain⟨x,y,z,u,a,b,c,d⟩:=h;exact f x y z u a b c d
theorem E68{A B:α→β→γ→δ→ε→ζ→Prop}(h:∃x y z u v w,A x y z u v w∧B x y z u v w)(f:∀x y z u v w,A x y z u v w→B x y z u v w→Z):Z:=by obtain⟨x,y,z,u,v,w,a,b⟩:=h;exact f x y z u v w a b
theorem E39{A B C D E F:α→β→γ→Prop}(h:∃x y z,A x y z∧B x y z∧C x y z∧D x y z∧E x y z∧F x y z)(f:∀x y z,A x y z→B x y z→C x y z→D x y z→E x y z→F x y z→Z):Z:=by obtain⟨x,y,z,a,b,c,d,e,g⟩:=h;exact f x y z a b c d e g
theorem E311{A B C D E F G H:α→β→γ→Prop}(h:∃x y z,A x y z∧B x y z∧C x y z∧D x y z∧E x y z∧F x y z∧G x y z∧H x y z)(f:∀x y z,A x y z→B x y z→C x y z→D x y z→E x y z→F x y z→G x y z→H x y z→Z):Z:=by obtain⟨x,y,z,a,b,c,d,e,g,h,i⟩:=h;exact f x y z a b c d e g h i
end
def sQ8(n:Nat)(a:Array Lean.Term)(e:Lean.Term):Nat→Lean.TSyntax `tactic→Lean.MacroM (Lean.TSyntax `tactic)
|0,r=>pure r
|k+1,r=>do let f:=Lean.mkIdent (.mkSimple s!"E{n-1-k}{n}");let c←(if e.raw.isIdent then`(tactic|try clear $(⟨e⟩):ident)else`(tactic|skip));let q←`(tactic|(refine $f $e ?_;$c;intro $a*));sQ8 n a e k (←`(tactic|first|$q:tactic|$r:tactic))
local macro_rules|`(tactic|let $p:term:=$e)=>do
 let o←`(tactic|obtain $(←rp 9 p):rcasesPat:=$e)
 match p with
 |`(⟨$a,*⟩)=>do
  let a:=a.getElems
  if 3≤a.size&&a.size≤12&&a.all (λx=>x.raw.isOfKind `Lean.Parser.Term.hole||x.raw.isIdent&&!(x.raw.getId==`rfl)) then sQ8 a.size a e a.size o else pure o
 |_=>pure o
noncomputable abbrev Uu:=PySem.Value→PySem.Shared→Prop
noncomputable abbrev Uv:=PySem.Addr→Prop
noncomputable abbrev Uw:=PySem.W.Frag
noncomputable abbrev Ux:=List (PySem.Addr×PySem.Obj)
noncomputable abbrev Uy:=List PySem.Value
noncomputable abbrev Uz:=Option PySem.Addr
noncomputable abbrev U0:=List Nat
noncomputable abbrev U2:=List PySem.Expr
noncomputable abbrev U3:=List PySem.Str
def ax:=@PySem.wpAny_bind
def aK:=@Nat.le_refl
def aL:=@Bool.false_ne_true
def aP:=@of_decide_eq_true
def aS:=@PySem.wpAny_pure
def bu:=@PySem.Heap.lt_size
def bz:=@decide_eq_true
def bC:=@List.mem_cons_self
def bP:=@List.mem_cons_of_mem
def bQ:=@List.getElem?_eq_some_iff
def bT:=@congrArg
def bU:=@PySem.SeqAt.room_here
def bV:=@List.mem_map
def b5:=@decide_eq_false
def cf:=@PySem.Paired.length
def cj:=@List.map_cons
def cC:=@Nat.le_trans
def cG:=@List.getElem?_set_ne
def cJ:=@PySem.Heap.get?_push_of_some
def cK:=@List.length_append
def cL:=@List.isEmpty_iff
def cR:=@Nat.ne_of_lt
def cS:=@List.mem_cons
def cY:=@Option.some.inj
def cZ:=@PySem.wpAny_mono
def c9:=@List.mem_of_getElem?
def dB:=@Nat.lt_of_lt_of_le
def dC:=@List.length_map
def dN:=@List.getElem?_map
def dO:=@List.size_toArray
def dP:=@Nat.lt_of_le_of_lt
def eO:=@PySem.Heap.get?_push_size
def eQ:=@List.mem_append_right
def fG:=@List.mem_append
def fH:=@List.all_eq_true
def fI:=@List.getElem?_eq_getElem
def fJ:=@List.map_append
def gq:=@List.length_cons
def gR:=@Nat.lt_irrefl
def gS:=@List.length_set
def gU:=@List.map_map
def ig:=@Ne.symm
def ik:=@Nat.zero_le
def il:=@Int.emod_nonneg
def ip:=@Int.emod_lt_of_pos
def iQ:=@List.mem_append_left
def iR:=@List.nodup_cons
def iS:=@List.lookup_cons
def jP:=@PySem.wpAny_truthy_bool
def jQ:=@PySem.mem_of_lookup
def jR:=@PySem.W.kia_one
def k0:=@PySem.wpAny_holding
def k7:=@PySem.wpAny_passesOwn
def k8:=@Bool.and_eq_true
def k9:=@Option.bind_some
def mO:=@List.mem_range
def mP:=@Bool.eq_iff_iff
def mQ:=@List.append_nil
def mR:=@List.all_cons
def mS:=@Nat.le_of_eq
def mU:=@List.map_congr_left
def mV:=@List.length_range
def oH:=@PySem.SeqAt.EqAt.same
def oI:=@List.mem_filter
def oJ:=@PySem.Calls.spliced_cons
def oK:=@List.getElem?_append_left
def oM:=@List.any_cons
def oN:=@PySem.tupleKind_room_in1
def oO:=@PySem.F.slot_dict_get
def oP:=@PySem.wpAny_dictEpoch
def oQ:=@PySem.F.slot_dict_keyiterator_next
def oR:=@Nat.not_lt_zero
def oS:=@Classical.choose_spec
def oT:=@PySem.W.mg_of
def oU:=@List.getElem_map
def tP:=@PySem.typeIs_none
def tQ:=@PySem.F.slot_NoneType_hash
def tR:=@PySem.wpAny_call_entry
def tS:=@List.filterMap_cons
def tT:=@PySem.wpAny_execs_nil
def tU:=@PySem.wpAny_standAt
def tV:=@PyProof.Rows.callWith_type1
def tW:=@PySem.sizeLine_eq
def tX:=@List.length_take
def tY:=@List.length_replicate
def tZ:=@PySem.concat_meets
def t4:=@PySem.Calls.callWith_builtin
def t5:=@List.replicate_succ
def t6:=@List.flatten_cons
def t7:=@Array.getElem?_toList
def t8:=@Option.isSome_map
def t9:=@PySem.call_meetsIn
def ua:=@PySem.wpAny_newObj_type
def ub:=@PySem.wpAny_dictEntries
def uc:=@PySem.wpAny_typeNameOfWhole_keyiter
def uf:=@PySem.wpAny_typeNameOf_keyiter
def ug:=@PySem.SeqAt.room_in
def uh:=@List.getElem?_set
def ui:=@Nat.lt_or_ge
def uj:=@List.eq_of_mem_replicate
def uk:=@List.cons.inj
def um:=@List.take_add_one
def xP:=@PySem.wpAny_specialOf
def xQ:=@PySem.SeqAt.EqAt.int_str
def xR:=@PySem.SeqAt.EqAt.int_none
def xS:=@PySem.SeqAt.EqAt.str_int
def xT:=@PySem.SeqAt.EqAt.str_none
def xU:=@PySem.SeqAt.EqAt.none_int
def xV:=@PySem.SeqAt.EqAt.none_str
def xW:=@List.mem_filterMap
def xX:=@PySem.wpAny_Call_Name_kw
def xY:=@List.of_mem_zip
def xZ:=@List.getElem?_replicate
def x3:=@PySem.noFill_tuple_add
def x4:=@PySem.F.slot_tuple_add
def x5:=@PySem.F.entry_tuple_add
def x6:=@PySem.F.args_tuple_add_2
def x8:=@List.map_nil
def x9:=@PySem.F.entry_dict_get
def ya:=@PySem.F.args_dict_get_3
def yb:=@PySem.F.plainAttrs_dict
def yc:=@List.getElem?_eq_none
def yd:=@List.drop_eq_getElem_cons
def ye:=@List.drop_length
def yf:=@List.getElem?_range
def yg:=@List.nodup_append
def yh:=@List.getElem_mem
def yi:=@List.any_eq_true
def yj:=@List.take_length
def yk:=@List.length_filter_le
def EJ:=@Option.map_eq_some_iff
def EK:=@PySem.F.entry_dict_keyiterator_next
def EL:=@PySem.F.args_dict_keyiterator_next_1
def ER:=@Array.getElem?_eq_some_iff
def EV:=@List.getElem?_eq_none_iff
namespace L2
open PySem PySem.Spec PyProof.Rows
inductive Key where|inl (i:Int)|inr (x:Str)|non
 deriving DecidableEq
abbrev Dw:Value→Bool
 |.none=>true
 |_=>false
def II{v:Value}(h:Dw v=true):v=.none:=by cases v<;>first|rfl|cases h
def lY:Key→Value→Bool
 |.inl k,v=>Value.isInt k v
 |.inr x,v=>Value.isStrOf x v
 |.non,v=>Dw v
abbrev PZ(w:World):Key→Int
 |.inl k=>hashInt k
 |.inr x=>hashStr w x
 |.non=>4238894112
def iG:∀{k:Key}{v:Value},lY k v=true→(∃i t,k=.inl i∧v=Value.int i t)∨(∃x t,k=.inr x∧v=Value.str x t)∨(k=.non∧v=.none)
 |.inl i,v,h=>by
  let⟨t,e⟩:=Value.isInt_shape (k:=i) (v:=v) h;exact .inl ⟨i,t,rfl,e⟩
 |.inr x,v,h=>by
  let⟨t,e⟩:=Value.isStrOf_shape (x:=x) (v:=v) h;exact .inr (.inl ⟨x,t,rfl,e⟩)
 |.non,v,h=>.inr (.inr ⟨rfl,II h⟩)
def HB(i:Int)(t:Tok):lY (.inl i) (.int i t)=true:=by simp[lY,Value.isInt]
def HC(x:Str)(t:Tok):lY (.inr x) (.str x t)=true:=by simp[lY,Value.isStrOf]
def LZ(a b:Int):decide ((Key.inl a:Key)=.inl b)=(a==b):=by
 by_cases e:a=b
 ·subst e;simp
 ·rw[b5 λq=>e (Key.inl.inj q)];exact(beq_eq_false_iff_ne.mpr e).symm
def L0(a b:Str):decide ((Key.inr a:Key)=.inr b)=decide (a=b):=by
 by_cases e:a=b
 ·subst e;simp
 ·rw[b5 λq=>e (Key.inr.inj q),b5 e]
def Ap{prog:Program}{w:World}{A:Around}{E:Uu}{s:Shared}{Q:Int→Shared→Prop}(h:Q 4238894112 { s with toks:=s.toks+1 }):wpAny (model prog w) A (PySem.pyHash .none) Q E s:=by
 unfold PySem.pyHash;let hv:[Value.none].any Value.onHeap=false:=rfl;refine ax ?_;rw[cRoomFor,if_neg (by rw[hv];exact aL)];refine aS ?_;refine ax (xP (tP s) tQ.lookup ?_);show wpAny _ _ (if (some (Value.builtin "NoneType.__hash__")==some Value.none)=true then _ else _) Q E s;rw[if_neg (by rw[beq_builtin_none];exact aL)];refine ax (xP (tP s) tQ.lookup ?_);show wpAny _ _ (callSpecialIfBoundUnlessNone? .none "__hash__" _ >>= _) Q E s;refine ax (wpAny_callSpecialIfBoundUnlessNone?_slot (tP s) tQ
  (tR tQ (tP s) PySem.F.entry_NoneType_hash
   (show wpAny _ _ (do ret (←mkInt 4238894112)) _ _ s from wpAny_ret_mkInt ?_) (PySem.F.args_NoneType_hash_1 _)))
 exact aS h
def bJ(prog:Program)(w:World):PySem.KeyKind prog w Key where
 is:=lY
 hash:=PZ w
 inj:=λv a b ha hb=>by
  rcases iG ha with⟨i,t,rfl,rfl⟩|⟨x,t,rfl,rfl⟩|⟨rfl,rfl⟩<;>rcases iG hb with⟨j,u,rfl,e⟩|⟨y,u,rfl,e⟩|⟨rfl,e⟩<;>first|rfl | (injection e with e1 _;rw[e1];done) | (cases e;done)
 byValue:=λk v h=>by
  rcases iG h with⟨i,t,rfl,rfl⟩|⟨x,t,rfl,rfl⟩|⟨rfl,rfl⟩<;>rfl
 pyHash:=λhv h=>by
  rcases iG hv with⟨i,t,rfl,rfl⟩|⟨x,t,rfl,rfl⟩|⟨rfl,rfl⟩
  ·exact wpAny_pyHash_int h
  ·exact wpAny_pyHash_str h
  ·exact Ap h
 eqBool:=λhu hv h=>by
  rcases iG hu with⟨i,t,rfl,rfl⟩|⟨x,t,rfl,rfl⟩|⟨rfl,rfl⟩
  ·rcases iG hv with⟨j,u,rfl,rfl⟩|⟨y,u,rfl,rfl⟩|⟨rfl,rfl⟩
   ·rw[LZ]at h;exact wpAny_eqBool_int h
   ·exact xQ i t y u _ _ _ _ h
   ·exact xR i t _ _ _ _ h
  ·rcases iG hv with⟨j,u,rfl,rfl⟩|⟨y,u,rfl,rfl⟩|⟨rfl,rfl⟩
   ·exact xS x t j u _ _ _ _ h
   ·rw[L0]at h;exact wpAny_eqBool_str h
   ·exact xT x t _ _ _ _ h
  ·rcases iG hv with⟨j,u,rfl,rfl⟩|⟨y,u,rfl,rfl⟩|⟨rfl,rfl⟩
   ·exact xU j u _ _ _ _ h
   ·exact xV y u _ _ _ _ h
   ·exact oH .none _ _ _ _ h
 «strs»:=λk x t v h=>by
  rcases iG h with⟨i,u,rfl,e⟩|⟨y,u,rfl,e⟩|⟨rfl,e⟩
  ·exact nomatch e
  ·injection e with e1 _;subst e1;cases v<;>rfl
  ·exact nomatch e
def G9(prog:Program)(w:World)(i:Int)(t:Tok):(bJ prog w).is (.inl i) (.int i t)=true:=HB i t
def Hc(prog:Program)(w:World)(x:Str)(t:Tok):(bJ prog w).is (.inr x) (.str x t)=true:=HC x t
def Hd(prog:Program)(w:World):(bJ prog w).is .non .none=true:=rfl
inductive V where
 |non|bl (b:Bool)|int (i:Int)|str (x:Str)|dQ (b:Array UInt8)|oV (b:UInt64)|ref (a:Addr)|ty (n:String)
 deriving DecidableEq
abbrev RelV:V→Value→Prop
 |.non,u=>u=Value.none
 |.bl b,u=>u=Value.bool b
 |.int i,u=>∃t,u=Value.int i t
 |.str x,u=>∃t,u=Value.str x t
 |.dQ b,u=>∃t,u=Value.bytes b t
 |.oV b,u=>∃t,u=Value.float b t
 |.ref a,u=>u=Value.ref a
 |.ty n,u=>u=Value.type n
@[reducible]def Vals:List V→Uy→Prop:=Paired RelV
theorem Vals.length{xs:List V}{us:Uy}(r:Vals xs us):xs.length=us.length:=cf r
theorem Vals.get:∀{xs:List V}{us:Uy}{i:Nat}{x:V},Vals xs us→xs[i]?=some x→∃u,us[i]?=some u∧RelV x u
 |_,_,_,_,.nil,e=>by simp at e
 |_,_,0,_,.cons r _,e=>by simp at e;subst e;exact⟨_,rfl,r⟩
 |_,_,i+1,x,.cons _ t,e=>by
  let⟨u,h1,h2⟩:=Vals.get (i:=i) (x:=x) t (by simpa using e);exact⟨u,by simpa using h1,h2⟩
theorem Vals.set{x:V}{u:Value}(r:RelV x u):∀{xs:List V}{us:Uy} (i:Nat),Vals xs us→Vals (xs.set i x) (us.set i u)
 |_,_,_,.nil=>.nil
 |_,_,0,.cons _ t=>.cons r t
 |_,_,i+1,.cons q t=>.cons q (Vals.set r i t)
theorem Vals.append:∀{xs ys:List V}{us ws:Uy},Vals xs us→Vals ys ws→Vals (xs++ys) (us++ws)
 |_,_,_,_,.nil,s=>s
 |_,_,_,_,.cons r t,s=>.cons r (Vals.append t s)
theorem Vals.take:∀{xs:List V}{us:Uy} (n:Nat),Vals xs us→Vals (xs.take n) (us.take n)
 |_,_,0,_=>.nil
 |_,_,_+1,.nil=>.nil
 |_,_,n+1,.cons r t=>.cons r (Vals.take n t)
theorem Vals.drop:∀{xs:List V}{us:Uy} (n:Nat),Vals xs us→Vals (xs.drop n) (us.drop n)
 |_,_,0,r=>r
 |_,_,_+1,.nil=>.nil
 |_,_,n+1,.cons _ t=>Vals.drop n t
def gd:Option V→Option Value→Prop
 |some v,some u=>RelV v u
 |none,none=>True
 |_,_=>False
def KV{κ:Type}:List (κ×V)→List (κ×Value)→Prop:=Paired λ(p:κ×V) (q:κ×Value)=>p.1=q.1∧RelV p.2 q.2
abbrev kV:Key→V
 |.inl i=>.int i
 |.inr x=>.str x
 |.non=>.non
inductive HO where
 |lst (xs:List V)
 |tup (xs:List V)
 |dK (ae:List (Key×V))|dT (ae:List (List Key×V))
 |set (S:Int→Bool) (n:Nat)
 |ins (C dx:Addr) (fs:List (Str×V))
 |own (x:Addr)
 |xd (fs:List (Str×V))
 |met (f x:Addr)
 |bH (lo hi:Int)
 |ck (o:Obj) (u:HO)
 |lb (ps:Array Value)
 |ext (φ:Heap→Prop)
noncomputable abbrev Hp:=Addr→Option HO
abbrev upd(H:Hp)(a:Addr)(o:HO):Hp:=λb=>if b=a then some o else H b
def bh{H:Hp}{a:Addr}{o:HO}:upd H a o a=some o:=by unfold upd;rw[if_pos rfl]
def aD{H:Hp}{a b:Addr}{o:HO}(h:b≠a):upd H a o b=H b:=by unfold upd;rw[if_neg h]
def rJ{H:Hp}{a b:Addr}{o u:HO}(h:H a=some o)(h':H b=some u)(d:o≠u):a≠b:=by
 intro e;subst e;rw[h]at h';exact d (cY h')
def cu{H:Hp}{a b:Addr}{o:HO}(h:H a=some o)(h':H b=none):a≠b:=by
 intro e;subst e;rw[h]at h';cases h'
def kM(h:Heap)(a:Addr)(items:Array Value):Prop:=∃o,h.get? a=some o∧o.cls=.type "tuple" ∧ o.dict=none∧∃n,o.data=.seq items n
def kM.tup{h:Heap}{a:Addr}{items:Array Value}(q:kM h a items):IsTup h a items:=let ⟨o,h1,h2,_,h3⟩:=q;⟨o,h1,h2,h3⟩
def kM.new(h:Heap)(items:Array Value):kM (h.push { cls:=.type "tuple",data:=.seq items }) h.objs.size items:=⟨_,eO _ rfl,rfl,rfl,_,rfl⟩
section
variable (P:Program)(w:World)
def bS(H:Hp)(h:Heap)(a:Addr):HO→Prop
 |.lst xs=>xs.length≤sizeLine∧∃(its:Uy) (n:Nat),Vals xs its∧h.get? a=some { cls:=.type "list",data:=.seq its.toArray n }
 |.tup xs=>xs.length≤sizeLine∧∃its:Uy,Vals xs its∧kM h a its.toArray
 |.dK ae=>ae.length≤sizeLine∧(a==sysModules)=false∧∃vs,KV ae vs∧h.DictOf (bJ P w) a vs
 |.dT ae=>ae.length≤sizeLine∧(a==sysModules)=false∧∃xs:List (List Key×Addr×Value),
  Paired (λ(p:List Key×V) (q:List Key×Addr×Value)=>p.1=q.1∧H q.2.1=some (.tup (p.1.map kV))∧RelV p.2 q.2.2) ae xs ∧
  ∃o es ep,h.get? a=some o∧o.ExactDict∧o.data=.dict es ep∧es.toList=xs.map (entryOfKey (tupleKind (bJ P w)))∧(xs.map (·.1)).Nodup
 |.set S n=>h.SetOf (intKind P w) a S n
 |.ins C dx fs=>H dx=some (.own a)∧fs.length≤1000∧dx≠a∧h.get? a=some (PySem.W.instObj C dx) ∧
  ∃mA,h.Ns1 dx mA∧(∀f,gd (fs.lookup f) (mA f))∧PySem.Within mA (fs.map (·.1))
 |.own _=>∃o,h.get? a=some o
 |.xd fs=>∃mA,h.Ns1 a mA∧∀f,gd (fs.lookup f) (mA f)
 |.bH lo hi=>∃t u v,h.get? a=some { cls:=.type "range",data:=.fields #[.int lo t,.int hi u,.int 1 v] }
 |.ck o u=>h.get? a=some o∧bS H h a u
 |.lb ps=>h.get? a=some { cls:=.none,data:=.fields ps }
 |.met f x=>h.get? a=some (PySem.W.methodObj (.ref f) (.ref x))
 |.ext φ=>φ h∧(∃o,h.get? a=some o)∧∀h1 h2:Heap,φ h1→(∀o,h1.get? a=some o→h2.get? a=some o)→φ h2
def bK(H:Hp)(h:Heap):Prop:=∀a o,H a=some o→bS P w H h a o
end
section
variable {P:Program}{w:World}{H H':Hp}{h h':Heap}{a:Addr}{o:HO}
theorem bS.lt(x:bS P w H h a o):a<h.objs.size:=by
 cases o with
 |lst xs=>let⟨_,_,_,_,e⟩:=x;exact bu e
 |tup xs=>let⟨_,_,_,p⟩:=x;exact p.tup.lt
 |dK ae=>let⟨_,_,_,_,o,_,_,e,_⟩:=x;exact bu e
 |dT ae=>let⟨_,_,_,_,o,_,_,e,_⟩:=x;exact bu e
 |set S n=>let⟨o,_,_,_,e,_⟩:=x;exact bu e
 |ins C dx fs=>let⟨_,_,_,e,_⟩:=x;exact bu e
 |own y=>let⟨_,e⟩:=x;exact bu e
 |xd fs=>let⟨_,⟨_,_,_,e,_⟩,_⟩:=x;exact bu e
 |bH lo hi=>let⟨_,_,_,e⟩:=x;exact bu e
 |ck ob u=>let⟨e,_⟩:=x;exact bu e
 |lb ps=>exact bu (show h.get? a=some _ from x)
 |met f y=>exact bu (show h.get? a=some _ from x)
 |ext φ=>let⟨_,⟨_,e⟩,_⟩:=x;exact bu e
theorem Paired.mw{α β:Type}{F G:α→β→Prop}:∀{l₁:List α}{l₂:List β},Paired F l₁ l₂→(∀a b,F a b→G a b)→Paired G l₁ l₂
 |_,_,.nil,_=>.nil
 |_,_,.cons r t,f=>.cons (f _ _ r) (Paired.mw t f)
def bS.kN(x:bS P w H h a o)(k:∀b u,(b=a∨H b=some (.own a))→h.get? b=some u→h'.get? b=some u)
  (ho:∀b,H b=some (.own a)→H' b=some (.own a)) (ht:∀b xs,H b=some (.tup xs)→H' b=some (.tup xs)):bS P w H' h' a o:=by
 induction o with
 |lst xs=>let⟨z,its,n,r,e⟩:=x;exact⟨z,its,n,r,k _ _ (.inl rfl) e⟩
 |tup xs=>let⟨z,its,r,ob,e,c⟩:=x;exact⟨z,its,r,ob,k _ _ (.inl rfl) e,c⟩
 |dK ae=>let⟨z,y,vs,r,ob,es,ep,e,c⟩:=x;exact⟨z,y,vs,r,ob,es,ep,k _ _ (.inl rfl) e,c⟩
 |dT ae =>
  let⟨z,y,xs,r,ob,es,ep,e,c⟩:=x;exact⟨z,y,xs,Paired.mw r λp q z=>⟨z.1,ht _ _ z.2.1,z.2.2⟩,ob,es,ep,k _ _ (.inl rfl) e,c⟩
 |set S n=>let⟨ob,es,ep,t,e,c⟩:=x;exact⟨ob,es,ep,t,k _ _ (.inl rfl) e,c⟩
 |ins C dx fs =>
  let⟨d,z,ne,e,mA,⟨od,es,ep,e2,c⟩,r⟩:=x;exact⟨ho _ d,z,ne,k _ _ (.inl rfl) e,mA,⟨od,es,ep,k _ _ (.inr d) e2,c⟩,r⟩
 |own y=>let⟨ob,e⟩:=x;exact⟨ob,k _ _ (.inl rfl) e⟩
 |xd fs=>let⟨mA,⟨od,es,ep,e,c⟩,r⟩:=x;exact⟨mA,⟨od,es,ep,k _ _ (.inl rfl) e,c⟩,r⟩
 |bH lo hi=>let⟨t,u,v,e⟩:=x;exact⟨t,u,v,k _ _ (.inl rfl) e⟩
 |ck ob u ih=>let⟨e,q⟩:=x;exact⟨k _ _ (.inl rfl) e,ih q⟩
 |lb ps =>
  let e:h.get? a=some { cls:=.none,data:=.fields ps }:=x;show h'.get? a=some { cls:=.none,data:=.fields ps };exact k a _ (.inl rfl) e
 |met f y =>
  let e:h.get? a=some (PySem.W.methodObj (.ref f) (.ref y)):=x;show h'.get? a=some (PySem.W.methodObj (.ref f) (.ref y));exact k a _ (.inl rfl) e
 |ext φ=>let⟨p,⟨o,e⟩,st⟩:=x;exact⟨st _ _ p λo q=>k _ _ (.inl rfl) q,⟨o,k _ _ (.inl rfl) e⟩,st⟩
theorem bK.lt(x:bK P w H h)(e:H a=some o):a<h.objs.size:=(x a o e).lt
def bK.fresh(x:bK P w H h)(e:h.objs.size≤a):H a=none:=by
 cases q:H a with
 |none=>rfl
 |some u=>exact absurd (dB (x.lt q) e) (gR _)
def bK.kept(x:bK P w H h)(k:∀b u,h.get? b=some u→h'.get? b=some u):bK P w H h':=λa o e =>
 (x a o e).kN (λb u _ q=>k b u q) (λ_ q=>q) λ_ _ q=>q
def bK.laid(x:bK P w H h)(k:∀b u,h.get? b=some u→h'.get? b=some u)(hp:h.objs.size≤a)(new:bS P w (upd H a o) h' a o):bK P w (upd H a o) h':=λb u e=>by
 let hn:=x.fresh hp;by_cases hb:b=a
 ·subst hb;rw[bh]at e;cases e;exact new
 ·rw[aD hb]at e;exact(x b u e).kN (λc v _ q=>k c v q) (λc q=>by rw[aD (cu q hn)];exact q) λc xs q=>by rw[aD (cu q hn)];exact q
end
def Rd(H:Hp)(a:Addr)(u:HO):Prop:=H a=some u∨∃o,H a=some (.ck o u)
def Rd.ok{P:Program}{w:World}{H:Hp}{h:Heap}{a:Addr}{u:HO}(r:Rd H a u)(x:bK P w H h):bS P w H h a u:=by
 rcases r with r|⟨o,r⟩
 ·exact x a u r
 ·let⟨_,q⟩:=x a _ r;exact q
abbrev oW:Option HO→Prop
 |some (.lst _)=>True
 |some (.dK _)=>True
 |some (.dT _)=>True
 |some (.set _ _)=>True
 |some (.ins _ _ _)=>True
 |some (.ext _)=>True
 |_=>False
section
variable {P:Program}{w:World}{H:Hp}{h h':Heap}{x e:Addr}{o':HO}
def bK.write(ok:bK P w H h)(mu:oW (H x))(he:e=x∨H e=some (.own x))(k:∀b u,b≠e→h.get? b=some u→h'.get? b=some u)(mW:∃u,h'.get? e=some u)
  (new:bS P w (upd H x o') h' x o'):bK P w (upd H x o') h':=λb u q=>by
 let Ee:∀c y,H c=some (.own y)→c≠x:=λc y r z=>by subst z;rw[r]at mu;exact mu
 let P1:∀c xs,H c=some (.tup xs)→c≠x:=λc xs r z=>by subst z;rw[r]at mu;exact mu
 by_cases hb:b=x
 ·subst hb;rw[bh]at q;cases q;exact new
 ·rw[aD hb]at q;by_cases lg:b=e
  ·let q':H b=some (.own x):=by
    rcases he with z|z
    ·exact absurd (lg.trans z) hb
    ·rw[lg];exact z
   rw[q]at q';cases q';let⟨v,hv⟩:=mW;exact⟨v,by rw[lg];exact hv⟩
  ·refine(ok b u q).kN (λc v hc r=>k c v ?_ r) (λc r=>by rw[aD (Ee c b r)];exact r) λc xs r=>by rw[aD (P1 c xs r)];exact r
   rcases hc with rfl|hc
   ·exact lg
   ·rintro rfl;rcases he with z|z
    ·exact Ee c b hc z
    ·rw[hc]at z;cases z;exact hb rfl
end
structure Un (fs ex:List Addr)(H H':Hp)(h h':Heap):Prop where
 keep:∀b o,h.get? b=some o→H b=none→b∉fs→b∉ex→h'.get? b=some o
 slot:∀b o,h.get? b=some o→H b=none→b∈fs→b∉ex→∃sl,h'.get? b=some { o with slots:=sl }
 free:∀b o,h.get? b=some o→H b=none→b∉ex→H' b=none
 there:∀b o,h.get? b=some o→b∉ex→∃o',h'.get? b=some o'
 jJ:∀b xs,H b=some (.tup xs)→H' b=some (.tup xs)
 iL:∀b o u,H b=some (.ck o u)→H' b=some (.ck o u)
 jK:∀b ps,H b=some (.lb ps)→∃more,H' b=some (.lb (ps++more))
section
variable {fs QJ ex TB:List Addr}{H H1 H2:Hp}{h h1 h2 h':Heap}{a x e:Addr}{o:HO}
def Un.any(u:Un fs ex H H1 h h1){b:Addr}{ob:Obj}(q:h.get? b=some ob)(n:H b=none)(hx:b∉ex):∃sl,h1.get? b=some { ob with slots:=sl }:=by
 by_cases hb:b∈fs
 ·exact u.slot b ob q n hb hx
 ·exact⟨ob.slots,u.keep b ob q n hb hx⟩
def Un.kept(k:∀b u,h.get? b=some u→h'.get? b=some u):Un fs ex H H h h' :=
 ⟨λb ob q _ _ _=>k b ob q,λb ob q _ _ _=>⟨ob.slots,k b ob q⟩,λ_ _ _ n _=>n,λb ob q _=>⟨ob,k b ob q⟩,λ_ _ q=>q,λ_ _ _ q=>q,λ_ ps q=>⟨#[],by rw[q];simp⟩⟩
def Un.refl:Un fs ex H H h h:=Un.kept λ_ _ q=>q
def Un.laid(k:∀b u,h.get? b=some u→h'.get? b=some u)(hp:h.objs.size≤a)(hn:H a=none):Un fs ex H (upd H a o) h h' where
 keep:=λb u q _ _ _=>k b u q
 slot:=λb u q _ _ _=>⟨u.slots,k b u q⟩
 free:=λb u q n _=>by rw[aD (cR (dB (bu q) hp))];exact n
 there:=λb u q _=>⟨u,k b u q⟩
 jJ:=λb xs q=>by rw[aD (cu q hn)];exact q
 iL:=λb u xs q=>by rw[aD (cu q hn)];exact q
 jK:=λb ps q=>⟨#[],by rw[aD (cu q hn),q];simp⟩
def Un.write(mu:oW (H x))(he:e=x∨H e=some (.own x))(k:∀b u,b≠e→h.get? b=some u→h'.get? b=some u)(mW:∃u,h'.get? e=some u):Un fs ex H (upd H x o) h h':=by
 let hx:∀b,H b=none→b≠x:=λb n z=>by subst z;rw[n]at mu;exact mu
 let hb:∀b,H b=none→b≠e:=λb n z=>by
  subst z;rcases he with r|r
  ·exact hx b n r
  ·rw[n]at r;cases r
 let hm:∀b u,H b=some u→¬oW (some u)→b≠x:=λb u q nm z=>by subst z;rw[q]at mu;exact nm mu
 refine⟨λb u q n _ _=>k b u (hb b n) q,λb u q n _ _=>⟨u.slots,k b u (hb b n) q⟩,λb u q n _=>by rw[aD (hx b n)];exact n,λb u q _=>?_,
  λb xs q=>by rw[aD (hm b _ q λz=>z)];exact q,λb u xs q=>by rw[aD (hm b _ q λz=>z)];exact q,λb ps q=>⟨#[],by rw[aD (hm b _ q λz=>z),q];simp⟩⟩
 by_cases lg:b=e
 ·subst lg;exact mW
 ·exact⟨u,k b u lg q⟩
end
abbrev uq(h:Heap)(H:Hp):List Addr:=(List.range h.objs.size).filter λa=>(H a).isSome
def iM(h:Heap)(H:Hp):Heap:=PySem.W.hideAll h (uq h H)
def HD(h:Heap)(H:Hp):(iM h H).objs.size=h.objs.size:=PySem.W.hideAll_size _ _
def IJ{h:Heap}{H:Hp}{b:Addr}{o:Obj}(e:h.get? b=some o)(n:H b=none):(iM h H).get? b=some o :=
 PySem.W.hideAll_get _ e λhm=>by
  let q:(H b).isSome=true:=(oI.mp hm).2;rw[n]at q;simp at q
def J7{h:Heap}{H:Hp}{b:Addr}{o:Obj}(e:(iM h H).get? b=some o):h.get? b=some o∧H b=none:=by
 let e':h.get? b=some o:=PySem.W.of_hideAll (uq h H) e;refine⟨e',?_⟩;cases q:H b with
 |none=>rfl
 |some x =>
  let hm:b∈uq h H:=oI.mpr ⟨mO.mpr (bu e'),by simp[q]⟩;let z:(iM h H).get? b=none:=PySem.W.hideAll_none (uq h H) hm;rw[z]at e;cases e
abbrev J8(g h:Heap)(L:Addr):Ux:=(List.range h.objs.size).filterMap λa=>if a=L∨(g.get? a).isSome=true then none else (h.get? a).map λo=>(a,o)
def rest(g h:Heap)(L d:Addr):Ux:=(J8 g h L).filter λp=>decide (p.1≠d)
structure Mod (K:Uw)(mg:Str→Option Value)(base:Heap):Prop where
 yl:K.In base
 glob:base.Ns mainGlobals mg
 blt:∃mb,base.Ns builtinsNs mb∧∀x:Str,x ≠ "__name__" → mb x=bootBuiltins x
 nolimit:base.NoLimit
structure Cx where
 prog:Program
 w:World
 K:Uw
 mg:Str→Option Value
 base:Heap
 A:Around
 N:U3
 s₀:Shared
 H₀:Hp
 env:Env
 outer:List Env
 stack:List Env
 ex:List Addr
 fn:Str→Bool
 calm:Bool
 pn:Ux
 xe:Uu
abbrev gu(l:List Env):List Addr:=l.filterMap (·.frame)
@[reducible]def Cx.fs(X:Cx):List Addr:=gu X.outer
def ur(sc:Scope)(x:Str):Prop:=sc.names.lookup x=some .local∨sc.names.lookup x=some .cell∨sc.names.lookup x=some .free
def Loc(sc:Scope)(x:Str):Prop:=sc.names.lookup x=some .local∨sc.names.lookup x=some .cell
def Look(env:Env)(h:Heap)(m:Str→Option Value)(x:Str)(u:Value):Prop :=
 (env.kindOf x=some .local∧m x=some u)∨((env.kindOf x=some .cell∨env.kindOf x=some .free)∧∃c,env.cells.lookup x=some c∧h.IsCell c (some u))
structure Cx.Ok (X:Cx):Prop where
 mod:Mod X.K X.mg X.base
 kind:X.env.scope.kind=.function
 glob:X.env.globals=mainGlobals
 blt:X.env.builtins=builtinsNs
 above:X.s₀.heap.objs.size≤X.env.locals
 inj:∀x y c,X.env.cells.lookup x=some c→X.env.cells.lookup y=some c→x=y
 has:∀x,(X.env.kindOf x=some .cell∨X.env.kindOf x=some .free)→∃c,X.env.cells.lookup x=some c
 oX:∀x c,X.fn x=true→X.env.cells.lookup x=some c→X.s₀.heap.objs.size≤c
 hd:X.calm=true→X.A.handled=none
 frames:X.A.frames=some X.stack
 uv:X.stack=X.outer∨(X.stack=X.env::X.outer∧X.env.frame=some X.env.locals)
 EW:∀b∈X.ex,b≠X.env.locals∧∀x c,X.env.cells.lookup x=some c→c≠b
 bs:∀b o,X.base.get? b=some o→X.s₀.heap.get? b=some o∧X.H₀ b=none
 iT:X.base.objs.size≤X.s₀.heap.objs.size
 oh:∀b o,X.base.get? b=some o→b∉X.ex
 sv:∀b∈X.ex,b∉X.fs
 gH:X.s₀.heap.FunFrames X.base X.outer
 mX:∀b∈X.fs,X.H₀ b=none
structure Inv (X:Cx)(pins:Ux)(σ:List (Option V))(H:Hp)(s:Shared):Prop where
 ok:X.Ok
 os:s.os=X.s₀.os
 bare:AllBare s.gens
 base:Un X.fs X.ex X.H₀ H X.s₀.heap s.heap
 loc:∃m,s.heap.Ns X.env.locals m∧∀(i:Nat) (x:Str) (v:V),X.N[i]?=some x→σ[i]?=some (some v)→ur X.env.scope x→∃u,RelV v u∧Look X.env s.heap m x u
 cell:∀x c,X.env.cells.lookup x=some c→∃v,s.heap.IsCell c v
 free:H X.env.locals=none
 gG:∀x c,X.env.cells.lookup x=some c→H c=none
 pin:∀p∈X.pn++pins,s.heap.get? p.1=some p.2∧H p.1=none∧p.1≠X.env.locals∧p.1∉X.fs∧∀v,p.2.data≠.cell v
 aA:bK X.prog X.w H s.heap
 len:σ.length=X.N.length
section
variable {X:Cx}{pins:Ux}{σ:List (Option V)}{H H':Hp}{s:Shared}{h':Heap}
def Cx.Ok.P2(ok:X.Ok){b:Addr}{o:Obj}(e:X.base.get? b=some o):b∉X.fs:=λhb=>by
 have:=(ok.gH.mem hb).1;rw[e]at this;cases this
theorem Inv.bs(I:Inv X pins σ H s):∀b o,X.base.get? b=some o→s.heap.get? b=some o∧H b=none:=λb o e =>
 ⟨I.base.keep b o (I.ok.bs b o e).1 (I.ok.bs b o e).2 (I.ok.P2 e) (I.ok.oh b o e),I.base.free b o (I.ok.bs b o e).1 (I.ok.bs b o e).2 (I.ok.oh b o e)⟩
def Inv.bk(I:Inv X pins σ H s):∀b o,X.base.get? b=some o→s.heap.get? b=some o:=λb o e=>(I.bs b o e).1
theorem Inv.mod(I:Inv X pins σ H s):Mod X.K X.mg X.base:=I.ok.mod
def Inv.eR(I:Inv X pins σ H s):X.K.In s.heap:=I.ok.mod.yl.keeps I.bk
def Inv.fr(I:Inv X pins σ H s):∃m,Fr X.base X.env.locals s.heap m :=
 let ⟨m,hn,_⟩:=I.loc
 ⟨m,hn,I.bk,cC I.ok.iT I.ok.above⟩
theorem Inv.lt(I:Inv X pins σ H s):X.env.locals<s.heap.objs.size:=let ⟨_,hn,_⟩:=I.loc;hn.lt
def Inv.sz(I:Inv X pins σ H s):X.s₀.heap.objs.size≤s.heap.objs.size:=cC I.ok.above (Nat.le_of_lt I.lt)
def Inv.P4(I:Inv X pins σ H s){a:Addr}(h:s.heap.objs.size≤a):a∉X.fs:=λhb=>by
 let⟨_,o,ho,_⟩:=I.ok.gH.mem hb;exact absurd (dB (bu ho) (cC I.sz h)) (gR _)
def Inv.lh(I:Inv X pins σ H s):∀x c,X.env.cells.lookup x=some c→c≠X.env.locals:=λx c e z=>by
 let⟨v,o,ho,hd⟩:=I.cell x c e;let⟨m,⟨o',es,ep,iU,ym,_⟩,_⟩:=I.loc;rw[z,iU]at ho;cases ho;rw[ym]at hd;cases hd
theorem Inv.gH(I:Inv X pins σ H s):s.heap.FunFrames X.base X.outer:=by
 let all:∀(l:List Env),(∀b∈gu l,b∈X.fs)→X.s₀.heap.FunFrames X.base l→s.heap.FunFrames X.base l:=by
  intro l
  induction l with
  |nil=>intro _ _;trivial
  |cons env r ih =>
   intro hs hl;let⟨hk,⟨L,o,hf,hn,ho,hd⟩,hr⟩:=hl;let hL:L∈X.fs:=hs L (by unfold gu;rw[tS,hf];exact bC);let⟨sl,e⟩:=I.base.slot L o ho (I.ok.mX L hL) hL λz=>I.ok.sv L z hL;exact⟨hk,⟨L,_,hf,hn,e,hd⟩,ih (λb hb=>hs b (by unfold gu;rw[tS,hf];exact bP _ hb)) hr⟩
 exact all X.outer (λ_ hb=>hb) I.ok.gH
theorem Inv.stack(I:Inv X pins σ H s):s.heap.FunFrames X.base X.stack:=by
 rcases I.ok.uv with e|⟨e,hf⟩
 ·rw[e];exact I.gH
 ·rw[e];let⟨m,hn,_⟩:=I.loc;refine .cons (by rw[I.ok.kind];decide) hf hn ?_ I.gH;exact Heap.get?_none_of_le (cC I.ok.iT I.ok.above)
def Inv.v8(I:Inv X pins σ H s):∀b∈gu X.stack,b∈X.env.locals::X.fs:=λb hb=>by
 rcases I.ok.uv with e|⟨e,hf⟩
 ·rw[e]at hb;exact bP _ hb
 ·rw[e]at hb;unfold gu at hb;rw[tS,hf]at hb;exact hb
def Inv.Bl(I:Inv X pins σ H s):∀b∈gu X.stack,H b=none:=λb hb=>by
 rcases cS.mp (I.v8 b hb)with e|hb
 ·rw[e];exact I.free
 ·let⟨_,o,ho,_⟩:=I.ok.gH.mem hb;exact I.base.free b o ho (I.ok.mX b hb) λz=>I.ok.sv b z hb
def Inv.step{g':Array GenState}{t':Nat}{d':Drawn}{ch:List Addr}(I:Inv X pins σ H s)
  (iq:∀b∈ch,(b∈X.ex∨X.s₀.heap.objs.size≤b)∧b≠X.env.locals∧(∀x c,X.env.cells.lookup x=some c→c≠b)∧∀p∈X.pn++pins,p.1≠b)
  (keep:∀b o,b≠X.env.locals→b∉X.fs→b∉ch→s.heap.get? b=some o→H b=none→h'.get? b=some o)
  (slot:∀b o,b≠X.env.locals→b∈X.fs→b∉ch→s.heap.get? b=some o→H b=none→∃sl,h'.get? b=some { o with slots:=sl }) (free:∀b o,b∉ch→s.heap.get? b=some o→H b=none→H' b=none)
  (there:∀b o,b∉ch→s.heap.get? b=some o→∃o',h'.get? b=some o')
  (jJ:∀b xs,H b=some (.tup xs)→H' b=some (.tup xs)) (iL:∀b o u,H b=some (.ck o u)→H' b=some (.ck o u)) (jK:∀b ps,H b=some (.lb ps)→∃more,H' b=some (.lb (ps++more)))
  (ns:∀m,s.heap.Ns X.env.locals m→h'.Ns X.env.locals m) (aA:bK X.prog X.w H' h') (hg:AllBare g') :
  Inv X pins σ H' { s with heap:=h',gens:=g',drawn:=d',toks:=t' }:=by
 let lj:∀b o,X.s₀.heap.get? b=some o→b≠X.env.locals:=λb o e=>cR (dB (bu e) I.ok.above);let iV:∀b o,X.s₀.heap.get? b=some o→b∉X.ex→b∉ch:=λb o e hx hb=>by
  rcases (iq b hb).1 with z|z
  ·exact hx z
  ·exact absurd (dB (bu e) z) (gR _)
 let cellK:∀x c,X.env.cells.lookup x=some c→∀v,s.heap.IsCell c v→h'.IsCell c v:=λx c e v ⟨o,ho,hd⟩=>by
  let oY:c∉ch:=λz=>(iq c z).2.2.1 x c e rfl;by_cases hc:c∈X.fs
  ·let⟨sl,q⟩:=slot c o (I.lh x c e) hc oY ho (I.gG x c e);exact⟨_,q,hd⟩
  ·exact⟨o,keep c o (I.lh x c e) hc oY ho (I.gG x c e),hd⟩
 refine⟨I.ok,I.os,hg,⟨λb o e n hb hx=>?_,λb o e n hb hx=>?_,λb o e n hx=>?_,λb o e hx=>?_,λb xs e=>jJ b xs (I.base.jJ b xs e),λb o xs e=>iL b o xs (I.base.iL b o xs e),λb ps e=>?_⟩,?_,λx c e=>?_,?_,λx c e=>?_,λp hp=>?_,aA,I.len⟩
 ·exact keep b o (lj b o e) hb (iV b o e hx) (I.base.keep b o e n hb hx) (I.base.free b o e n hx)
 ·let⟨sl,e1⟩:=I.base.slot b o e n hb hx;let⟨QK,e2⟩:=slot b _ (lj b o e) hb (iV b o e hx) e1 (I.base.free b o e n hx);exact⟨QK,e2⟩
 ·let⟨o',e1⟩:=I.base.there b o e hx;exact free b o' (iV b o e hx) e1 (I.base.free b o e n hx)
 ·let⟨o',e1⟩:=I.base.there b o e hx;exact there b o' (iV b o e hx) e1
 ·let⟨m1,e1⟩:=I.base.jK b ps e;let⟨m2,e2⟩:=jK b _ e1;exact⟨m1++m2,by rw[e2,Array.append_assoc]⟩
 ·let⟨m,hn,hl⟩:=I.loc;refine⟨m,ns m hn,λi x v e1 e2 e3=>?_⟩;let⟨u,r,l⟩:=hl i x v e1 e2 e3;refine⟨u,r,?_⟩;rcases l with l|⟨k,c,e,z⟩
  ·exact .inl l
  ·exact .inr ⟨k,c,e,cellK x c e _ z⟩
 ·let⟨v,z⟩:=I.cell x c e;exact⟨v,cellK x c e v z⟩
 ·let⟨m,⟨o,_,_,ho,_⟩,_⟩:=I.loc;exact free _ o (λz=>(iq _ z).2.1 rfl) ho I.free
 ·let⟨v,o,ho,hd⟩:=I.cell x c e;exact free c o (λz=>(iq c z).2.2.1 x c e rfl) ho (I.gG x c e)
 ·let⟨e,n,ne,nf,d⟩:=I.pin p hp;let oY:p.1∉ch:=λz=>(iq p.1 z).2.2.2 p hp rfl;exact⟨keep p.1 p.2 ne nf oY e n,free p.1 p.2 oY e n,ne,nf,d⟩
def Inv.un{t':Nat}(I:Inv X pins σ H s)(u:Un X.fs [] H H' s.heap h')(aA:bK X.prog X.w H' h'):Inv X pins σ H' { s with heap:=h',toks:=t' }:=by
 let⟨m,⟨o,es,ep,ho,r⟩,_⟩:=id I.loc;let⟨sl,hL⟩:=u.any ho I.free (by simp);exact I.step (g':=s.gens) (d':=s.drawn) (ch:=[]) (λ_ z=>nomatch z) (λb o _ hb _ e n=>u.keep b o e n hb (by simp)) (λb o _ hb _ e n=>u.slot b o e n hb (by simp)) (λb o _ e n=>u.free b o e n (by simp)) (λb o _ e=>u.there b o e (by simp)) u.jJ u.iL u.jK (λm' hm=>by
  let⟨o',yn,yo,iU,r'⟩:=hm;rw[ho]at iU;cases iU;exact⟨_,yn,yo,hL,r'⟩) aA I.bare
def Inv.call{g':Array GenState}{t':Nat}{d':Drawn}{ch:List Addr}(I:Inv X pins σ H s)(u:Un (gu X.stack) ch H H' s.heap h')(aA:bK X.prog X.w H' h')(hg:AllBare g')
  (iq:∀b∈ch,(b∈X.ex∨X.s₀.heap.objs.size≤b)∧b≠X.env.locals∧(∀x c,X.env.cells.lookup x=some c→c≠b)∧∀p∈X.pn++pins,p.1≠b) :
  Inv X pins σ H' { s with heap:=h',gens:=g',drawn:=d',toks:=t' }:=by
 let⟨m,⟨o,es,ep,ho,r⟩,_⟩:=id I.loc;let⟨sl,hL⟩:=u.any ho I.free λz=>(iq _ z).2.1 rfl;exact I.step (ch:=ch) iq (λb o hL hb hc e n=>u.keep b o e n (λz=>(cS.mp (I.v8 b z)).elim hL hb) hc) (λb o _ _ hc e n=>u.any e n hc) (λb o hc e n=>u.free b o e n hc) (λb o hc e=>u.there b o e hc) u.jJ u.iL u.jK (λm' hm=>by
  let⟨o',yn,yo,iU,r'⟩:=hm;rw[ho]at iU;cases iU;exact⟨_,yn,yo,hL,r'⟩) aA hg
def Inv.turned{t':Nat}{it:Addr}(I:Inv X pins σ H s)(k:∀b o,b≠it→s.heap.get? b=some o→h'.get? b=some o)(hn:H it=none)(hL:it≠X.env.locals)
  (h1:it∈X.ex∨X.s₀.heap.objs.size≤it) (h2:∀x c,X.env.cells.lookup x=some c→c≠it) (h3:∀p∈X.pn++pins,p.1≠it):Inv X pins σ H { s with heap:=h',toks:=t' }:=by
 let jS:∀b u,H b=some u→b≠it:=λb u e z=>by rw[z,hn]at e;cases e
 refine I.step (g':=s.gens) (d':=s.drawn) (ch:=[it]) (λb hb=>?_) (λb o _ _ hc e _=>k b o (λz=>hc (by simp[z])) e) (λb o _ _ hc e _=>⟨o.slots,k b o (λz=>hc (by simp[z])) e⟩) (λ_ _ _ _ n=>n)
  (λb o hc e=>⟨o,k b o (λz=>hc (by simp[z])) e⟩) (λ_ _ e=>e) (λ_ _ _ e=>e) (λb ps e=>⟨#[],by rw[e];simp⟩) (λm hm=>?_) (λb u e=>?_) I.bare
 ·let e:b=it:=by simpa using hb
  subst e;exact⟨h1,hL,h2,h3⟩
 ·let⟨o,es,ep,ho,r⟩:=hm;exact⟨o,es,ep,k _ o (ig hL) ho,r⟩
 ·refine(I.aA b u e).kN (λc v hc q=>k c v ?_ q) (λ_ q=>q) λ_ _ q=>q;rcases hc with z|z
  ·rw[z];exact jS b u e
  ·exact jS c _ z
def Inv.tok(I:Inv X pins σ H s)(t:Nat):Inv X pins σ H { s with toks:=t }:=I.un (h':=s.heap) (t':=t) Un.refl I.aA
theorem Inv.kept{t':Nat}(I:Inv X pins σ H s)(k:∀b u,s.heap.get? b=some u→h'.get? b=some u):Inv X pins σ H { s with heap:=h',toks:=t' }:=I.un (Un.kept k) (I.aA.kept k)
theorem Inv.laid{a:Addr}{o:HO}{t':Nat}(I:Inv X pins σ H s)(k:∀b u,s.heap.get? b=some u→h'.get? b=some u)(hp:s.heap.objs.size≤a)(new:bS X.prog X.w (upd H a o) h' a o) :
 Inv X pins σ (upd H a o) { s with heap:=h',toks:=t' }:=I.un (Un.laid k hp (I.aA.fresh hp)) (I.aA.laid k hp new)
theorem Inv.write{x e:Addr}{o:HO}{t':Nat}(I:Inv X pins σ H s)(mu:oW (H x))(he:e=x∨H e=some (.own x))(k:∀b u,b≠e→s.heap.get? b=some u→h'.get? b=some u)(mW:∃u,h'.get? e=some u)
 (new:bS X.prog X.w (upd H x o) h' x o):Inv X pins σ (upd H x o) { s with heap:=h',toks:=t' }:=I.un (Un.write mu he k mW) (I.aA.write mu he k mW new)
def Inv.weak{σ':List (Option V)}(I:Inv X pins σ H s)(hl:σ'.length=σ.length)(w:∀(i:Nat) v,σ'[i]?=some (some v)→σ[i]?=some (some v)):Inv X pins σ' H s :=
 ⟨I.ok,I.os,I.bare,I.base,let ⟨m,hn,EX⟩:=I.loc;⟨m,hn,λi x v e1 e2 e3=>EX i x v e1 (w i v e2) e3⟩,I.cell,I.free,I.gG,I.pin,I.aA,hl.trans I.len⟩
def Inv.Bm{Dx:Ux}(I:Inv X pins σ H s)(h:∀p∈Dx,s.heap.get? p.1=some p.2∧H p.1=none∧p.1≠X.env.locals∧p.1∉X.fs∧∀v,p.2.data≠.cell v):Inv X Dx σ H s :=
 ⟨I.ok,I.os,I.bare,I.base,I.loc,I.cell,I.free,I.gG,λp hp=>(fG.mp hp).elim (λz=>I.pin p (iQ _ z)) (h p),I.aA,I.len⟩
def qK{N:U3}(hN:N.Nodup){i j:Nat}{x:Str}(a:N[i]?=some x)(b:N[j]?=some x):i=j:=by
 let⟨h1,e1⟩:=bQ.mp a;let⟨h2,e2⟩:=bQ.mp b;exact(List.getElem_inj hN).mp (e1.trans e2.symm)
def Aq{M:Model}{A:Around}{E:Uu}{i:Nat}{x:Str}{v:V}{u:Value}{Q:Unit→Shared→Prop}(I:Inv X pins σ H s)(hN:X.N.Nodup)(hi:X.N[i]?=some x)(hx:Loc X.env.scope x)(r:RelV v u)
  (h:∀s',Inv X pins (σ.set i (some v)) H s'→(∃a,Heap.SameBut a s.heap s'.heap∧(a=X.env.locals∨X.env.cells.lookup x=some a))→Q () s') (hf:X.fn x=true∨X.env.scope.names.lookup x=some .local:=by first|exact .inl rfl|exact .inr rfl|assumption):wpAny M A (storeName X.env x u) Q E s:=by
 let⟨m,hn,hl⟩:=id I.loc;let P5:(X.env.scope.kind==.class||(X.env.scope.kind==.module&&X.env.locals != X.env.globals))=false:=by rw[I.ok.kind];rfl
 let Ef:i<σ.length:=by rw[I.len];exact(bQ.mp hi).1
 let lh:=I.lh;let tracked:∀{a:Addr}{h':Heap},(∃o,s.heap.get? a=some o∧H a=none)→Heap.SameBut a s.heap h'→bK X.prog X.w H h':=λ{a h'} ha hs b ob e=>by
  let⟨_,_,rK⟩:=ha;refine(I.aA b ob e).kN (λc w' hc q=>(hs.2 c ?_).trans q) (λ_ q=>q) λ_ _ q=>q;rintro rfl;rcases hc with rfl|hc
  ·rw[rK]at e;cases e
  ·rw[rK]at hc;cases hc
 rcases hx with hk|hk
 ·refine wpAny_storeName_local hk hn (λh' QL hs=>?_) P5;let⟨oL,_,_,QM,_⟩:=id hn;refine h _ ⟨I.ok,I.os,I.bare,⟨λb o e n hb hx=>?_,λb o e n hb hx=>?_,I.base.free,λb o e hx=>?_,I.base.jJ,I.base.iL,I.base.jK⟩,⟨_,QL,λj y v' e1 e2 e3=>?_⟩,λy c e=>?_,I.free,I.gG,λp hp=>?_,tracked ⟨oL,QM,I.free⟩ hs,by simpa using I.len⟩ ⟨_,hs,.inl rfl⟩
  ·exact(hs.2 b (cR (dB (bu e) I.ok.above))).trans (I.base.keep b o e n hb hx)
  ·let⟨sl,e1⟩:=I.base.slot b o e n hb hx;exact⟨sl,(hs.2 b (cR (dB (bu e) I.ok.above))).trans e1⟩
  ·let⟨o',e1⟩:=I.base.there b o e hx;exact⟨o',(hs.2 b (cR (dB (bu e) I.ok.above))).trans e1⟩
  ·by_cases hj:j=i
   ·subst hj;rw[hi]at e1;cases e1;rw[List.getElem?_set_self Ef]at e2;cases e2;exact⟨u,r,.inl ⟨hk,by simp⟩⟩
   ·rw[cG (ig hj)]at e2;let⟨u',r',q⟩:=hl j y v' e1 e2 e3;refine⟨u',r',?_⟩;rcases q with⟨k,e⟩|⟨k,c,e,z⟩
    ·refine .inl ⟨k,?_⟩;have:y≠x:=λe=>hj (qK hN e1 (e▸hi));simp[this,e]
    ·exact .inr ⟨k,c,e,z.sameBut hs (lh y c e)⟩
  ·let⟨w',z⟩:=I.cell y c e;exact⟨w',z.sameBut hs (lh y c e)⟩
  ·let⟨e,n,ne,nf,d⟩:=I.pin p hp;exact⟨(hs.2 p.1 ne).trans e,n,ne,nf,d⟩
 ·let yp:X.fn x=true:=by
   rcases hf with z|z
   ·exact z
   ·rw[z]at hk;cases hk
  let⟨c,hc⟩:=I.ok.has x (.inl hk);let⟨w',z⟩:=I.cell x c hc;refine wpAny_storeName_cell I.ok.kind hk hc z (λh' yq hs=>?_);let⟨oc,EY,P6⟩:=id z;refine h { s with heap:=h' } ⟨I.ok,I.os,I.bare,⟨λb o e n hb hx=>?_,λb o e n hb hx=>?_,I.base.free,λb o e hx=>?_,I.base.jJ,I.base.iL,I.base.jK⟩,⟨m,hn.sameBut hs (ig (lh x c hc)),λj y v' e1 e2 e3=>?_⟩,λy c' e=>?_,I.free,I.gG,λp hp=>?_,tracked ⟨oc,EY,I.gG x c hc⟩ hs,by simpa using I.len⟩ ⟨c,hs,.inr hc⟩
  ·exact(hs.2 b (cR (dB (bu e) (I.ok.oX x c yp hc)))).trans (I.base.keep b o e n hb hx)
  ·let⟨sl,e1⟩:=I.base.slot b o e n hb hx;exact⟨sl,(hs.2 b (cR (dB (bu e) (I.ok.oX x c yp hc)))).trans e1⟩
  ·let⟨o',e1⟩:=I.base.there b o e hx;exact⟨o',(hs.2 b (cR (dB (bu e) (I.ok.oX x c yp hc)))).trans e1⟩
  ·by_cases hj:j=i
   ·subst hj;rw[hi]at e1;cases e1;rw[List.getElem?_set_self Ef]at e2;cases e2;exact⟨u,r,.inr ⟨.inl hk,c,hc,yq⟩⟩
   ·rw[cG (ig hj)]at e2;let⟨u',r',q⟩:=hl j y v' e1 e2 e3;refine⟨u',r',?_⟩;rcases q with q|⟨k,c',e,z'⟩
    ·exact .inl q
    ·refine .inr ⟨k,c',e,z'.sameBut hs ?_⟩;rintro rfl;exact hj (qK hN e1 (I.ok.inj _ _ _ e hc▸hi))
  ·by_cases EZ:c'=c
   ·subst EZ;exact⟨_,yq⟩
   ·let⟨w2,z2⟩:=I.cell y c' e;exact⟨w2,z2.sameBut hs EZ⟩
  ·let⟨e,n,ne,nf,d⟩:=I.pin p hp;refine⟨(hs.2 p.1 ?_).trans e,n,ne,nf,d⟩;intro q;rw[q,EY]at e;let q':oc=p.2:=cY e;exact d w' (by rw[←q'];exact P6)
def AO{M:Model}{A:Around}{E:Uu}{i:Nat}{x:Str}{v:V}{u:Value}{Q:Unit→Shared→Prop}(I:Inv X pins σ H s)(hN:X.N.Nodup)(hi:X.N[i]?=some x)(hx:Loc X.env.scope x)(r:RelV v u)
  (h:∀s',Inv X pins (σ.set i (some v)) H s'→Q () s') (hf:X.fn x=true∨X.env.scope.names.lookup x=some .local:=by first|exact .inl rfl|exact .inr rfl|assumption):wpAny M A (storeName X.env x u) Q E s :=
 Aq I hN hi hx r (λs' I' _=>h s' I') hf
def Inv.Oz{s':Shared}{ch:List Addr}(I:Inv X pins σ H s)(ho:s'.os=s.os)(u:Un (gu X.stack) ch H H' s.heap s'.heap)(aA:bK X.prog X.w H' s'.heap)(hg:AllBare s'.gens)
  (iq:∀b∈ch,(b∈X.ex∨X.s₀.heap.objs.size≤b)∧b≠X.env.locals∧(∀x c,X.env.cells.lookup x=some c→c≠b)∧∀p∈X.pn++pins,p.1≠b):Inv X pins σ H' s':=by
 let⟨h',g',d',t',o'⟩:=s';let e:o'=s.os:=ho;subst e;exact I.call (g':=g') (t':=t') (d':=d') u aA hg iq
end
noncomputable abbrev XK:=Value→Uz→Hp→Prop
noncomputable abbrev St:=List (Option V)
noncomputable abbrev VK:=V→Hp→Prop
noncomputable abbrev TE:=St→Hp→VK→Prop
noncomputable abbrev TT:=St→Hp→(Bool→Hp→Prop)→Prop
noncomputable abbrev TA:=St→Hp→(List V→Hp→Prop)→Prop
structure Ends where
 nx:St→Hp→Prop
 rt:VK
 bk:St→Hp→Prop:=λ_ _=>False
 ct:St→Hp→Prop:=λ_ _=>False
noncomputable abbrev TS:=Ends→St→Hp→Prop
def EP(X:Cx)(pins:Ux)(σ:St)(Q:VK)(u:Value)(s':Shared):Prop:=∃v H',Inv X pins σ H' s'∧RelV v u∧Q v H'
def TP(X:Cx)(pins:Ux)(σ:St)(Q:Bool→Hp→Prop)(b:Bool)(s':Shared):Prop:=∃H',Inv X pins σ H' s'∧Q b H'
def AP(X:Cx)(pins:Ux)(σ:St)(Q:List V→Hp→Prop)(us:Uy)(s':Shared):Prop:=∃vs H',Inv X pins σ H' s'∧Vals vs us∧Q vs H'
def SP(X:Cx)(pins:Ux)(D:Ends)(f:Flow)(s':Shared):Prop :=
 match f with
 |.next=>∃σ' H',Inv X pins σ' H' s'∧D.nx σ' H'
 |.brk=>∃σ' H',Inv X pins σ' H' s'∧D.bk σ' H'
 |.cont=>∃σ' H',Inv X pins σ' H' s'∧D.ct σ' H'
 |.ret u=>∃v σ' H',Inv X pins σ' H' s'∧RelV v u∧D.rt v H'
def PE(X:Cx)(e:Expr)(t:TE):Prop :=
 ∀(pins:Ux) (s:Shared) (σ:St) (H:Hp) (Q:VK),Inv X pins σ H s→t σ H Q→wpAny (model X.prog X.w) X.A (eval e X.env) (EP X pins σ Q) X.xe s
def PT(X:Cx)(e:Expr)(t:TT):Prop :=
 ∀(pins:Ux) (s:Shared) (σ:St) (H:Hp) (Q:Bool→Hp→Prop),Inv X pins σ H s→t σ H Q→wpAny (model X.prog X.w) X.A (isTrue e X.env (eval e X.env)) (TP X pins σ Q) X.xe s
def PW(X:Cx)(e:Expr)(t:TT):Prop :=
 ∀(whole:Sem Value) (pins:Ux) (s:Shared) (σ:St) (H:Hp) (Q:Bool→Hp→Prop),Inv X pins σ H s→t σ H Q→wpAny (model X.prog X.w) X.A (isTrue e X.env whole) (TP X pins σ Q) X.xe s
def PW.pt{X:Cx}{e:Expr}{t:TT}(h:PW X e t):PT X e t:=h _
def PA(X:Cx)(es:U2)(t:TA):Prop :=
 ∀(pos:Pos) (pins:Ux) (s:Shared) (σ:St) (H:Hp) (Q:List V→Hp→Prop),Inv X pins σ H s→t σ H Q→wpAny (model X.prog X.w) X.A (spliced (backTo pos (starEach es X.env))) (AP X pins σ Q) X.xe s
def PS(X:Cx)(st:Stmt)(t:TS):Prop :=
 ∀(pins:Ux) (s:Shared) (σ:St) (H:Hp) (D:Ends),Inv X pins σ H s→t D σ H→wpAny (model X.prog X.w) X.A (exec st X.env) (SP X pins D) X.xe s
def dR(X:Cx)(st:List Stmt)(t:TS):Prop :=
 ∀(pins:Ux) (s:Shared) (σ:St) (H:Hp) (D:Ends),Inv X pins σ H s→t D σ H→wpAny (model X.prog X.w) X.A (execs st X.env) (SP X pins D) X.xe s
def ay{α:Type}{t:Sem α}{Q Q':α→Shared→Prop}{M:Model}{A:Around}{E:Uu}{s:Shared}(h:wpAny M A t Q E s)(hQ:∀a s,Q a s→Q' a s):wpAny M A t Q' E s:=cZ h hQ λ_ _ x=>x
section
variable {X:Cx}
abbrev eD(i:Nat):TE:=λσ H Q=>∃v,σ[i]?=some (some v)∧Q v H
abbrev tC(v:V):TE:=λ_ H Q=>Q v H
def Ck {i:Nat}{x:Str}{pos:Pos} (hN:X.N[i]?=some x) (hv:ur X.env.scope x) (hd:(x==("__debug__" : Str))=false:=by decide) (fK:(x==("__classdict__" : Str))=false:=by decide):PE X (.Name x pos) (eD i):=by
 intro pins s σ H Q I h;let⟨v,e,h⟩:=h;let⟨m,hn,hl⟩:=I.loc;let⟨u,r,l⟩:=hl i x v hN e hv;let fin:EP X pins σ Q u s:=⟨v,H,I,r,h⟩;rcases l with⟨hk,hm⟩|⟨hk,c,hc,Dy⟩
 ·exact wpAny_Name (wpAny_loadName_local I.ok.kind hk hn hm fin) hd
 ·rcases hk with hk|hk
  ·exact wpAny_Name (wpAny_loadName_cell I.ok.kind hk hc Dy fin) hd
  ·exact wpAny_Name (wpAny_loadName_free I.ok.kind hk hc Dy fin fK) hd
def L1{i j pos}:PE X (.Constant (.int i) j pos) (tC (.int i)):=λ_ _ _ H _ I h=>wpAny_Constant_int ⟨.int i,H,I.tok _,⟨_,rfl⟩,h⟩
def OB{b j pos}:PE X (.Constant (.bool b) j pos) (tC (.bl b)):=λ_ _ _ H _ I h=>Constant_bool ⟨.bl b,H,I,rfl,h⟩
def L3{j pos}:PE X (.Constant .none j pos) (tC .non):=λ_ _ _ H _ I h=>Constant_none ⟨.non,H,I,rfl,h⟩
def L4{x j pos}:PE X (.Constant (.str x) j pos) (tC (.str x)):=λ_ _ _ H _ I h=>Calls.Constant_str ⟨.str x,H,I.tok _,⟨_,rfl⟩,h⟩
def Gl(X:Cx)(x:Str):Prop:=X.env.kindOf x=some .globalImplicit
def J9{E:Uu}{pins:Ux}{s:Shared}{σ:St}{H:Hp}{x:Str}{u:Value}{pos:Pos}{Q:Uu}(I:Inv X pins σ H s)(hg:Gl X x)(hm:X.mg x=some u)(h:Q u s)
  (hd:(x==("__debug__" : Str))=false:=by decide):wpAny (model X.prog X.w) X.A (eval (.Name x pos) X.env) Q E s :=
 Calls.Name_function_global I.ok.kind hg (Calls.loadGlobal_global (by rw[I.ok.glob];exact I.mod.glob.keeps I.bk) hm h) hd
def lQ{E:Uu}{pins:Ux}{s:Shared}{σ:St}{H:Hp}{x:Str}{u:Value}{pos:Pos}{Q:Uu}(I:Inv X pins σ H s)(hg:Gl X x)(hm:X.mg x=none)(hv:bootBuiltins x=some u)(h:Q u s)
  (hn:x ≠ "__name__" := by decide) (hd:(x==("__debug__" : Str))=false:=by decide):wpAny (model X.prog X.w) X.A (eval (.Name x pos) X.env) Q E s:=by
 let⟨mb,h1,h2⟩:=I.mod.blt;exact Calls.Name_function_global I.ok.kind hg (Calls.loadGlobal_builtin (by rw[I.ok.glob];exact I.mod.glob.keeps I.bk) hm (by rw[I.ok.blt];exact h1.keeps I.bk) ((h2 x hn).trans hv) h) hd
def Ka {x:Str}{v:V}{u:Value}{pos:Pos} (hg:Gl X x) (hm:X.mg x=none) (hv:bootBuiltins x=some u) (r:RelV v u) (hn:x ≠ "__name__" := by decide) (hd:(x==("__debug__" : Str))=false:=by decide):PE X (.Name x pos) (tC v) :=
 λ_ _ _ H _ I h=>lQ I hg hm hv ⟨v,H,I,r,h⟩ hn hd
variable {a b:Expr}{ta tb:TE}{pos:Pos}
def PC(X:Cx)(op:CmpOp)(a b:Expr)(t:TE):Prop :=
 ∀(pins:Ux) (s:Shared) (σ:St) (H:Hp) (Q:VK),Inv X pins σ H s→t σ H Q →
  wpAny (model X.prog X.w) X.A (eval a X.env) (λv s₁=>wpAny (model X.prog X.w) X.A (eval b X.env) (λu s₂=>wpAny (model X.prog X.w) X.A (compareOp op v u) (EP X pins σ Q) X.xe s₂) X.xe s₁) X.xe s
abbrev tB(t:TE):TT:=λσ H Q=>t σ H λx H1=>∃c,x=.bl c∧Q c H1
def rn{op:CmpOp}{t:TE}(h:PC X op a b t)(h1:behindInMarks op b=false:=by first|exact Te _ (by decide) (by decide)|rfl):PT X (.Compare a [op] [b] pos) (tB t):=by
 intro pins s σ H Q I hw;refine wpAny_isTrue_Compare1 (ay (h pins s σ H _ I hw) λv s1 h1=>ay h1 λu s2 h2=>ay h2 λc s3 ⟨x,H1,I1,r1,q1⟩=>?_) h1;let⟨d,rfl,q⟩:=q1;cases r1;exact jP ⟨H1,I1,q⟩
variable {tA uw:TT}{rest:U2}
abbrev Eg(t u:TT):TT:=λσ H Q=>t σ H λc H1=>if c=true then u σ H1 Q else Q false H1
abbrev E1(t u:TT):TT:=λσ H Q=>t σ H λc H1=>if c=true then Q true H1 else u σ H1 Q
abbrev Eh(t:TT):TT:=λσ H Q=>t σ H λc H1=>Q (!c) H1
def Kc(ha:PT X a tA):PW X (.BoolOp .And [a] pos) tA:=by
 intro wh pins s σ H Q I h;refine isTrue_and (ay (ha pins s σ H Q I h) λc s1 e=>?_);cases c with
 |true=>exact isTrue_and_nil e
 |false=>exact e
def L5(ha:PT X a tA):PW X (.BoolOp .Or [a] pos) tA:=by
 intro wh pins s σ H Q I h;refine isTrue_or (ay (ha pins s σ H Q I h) λc s1 e=>?_);cases c with
 |false=>exact isTrue_or_nil e
 |true=>exact e
def L6(ha:PT X a tA)(hb:PW X (.BoolOp .And (b::rest) pos) uw):PW X (.BoolOp .And (a::b::rest) pos) (Eg tA uw):=by
 intro wh pins s σ H Q I h;refine isTrue_and (ay (ha pins s σ H _ I h) λc s1 ⟨H1,I1,q1⟩=>?_);cases c with
 |true=>exact hb wh pins s1 σ H1 Q I1 q1
 |false=>exact⟨H1,I1,q1⟩
def OD(ha:PT X a tA)(hb:PW X (.BoolOp .Or (b::rest) pos) uw):PW X (.BoolOp .Or (a::b::rest) pos) (E1 tA uw):=by
 intro wh pins s σ H Q I h;refine isTrue_or (ay (ha pins s σ H _ I h) λc s1 ⟨H1,I1,q1⟩=>?_);cases c with
 |true=>exact⟨H1,I1,q1⟩
 |false=>exact hb wh pins s1 σ H1 Q I1 q1
def L7(ha:PT X a tA):PT X (.UnaryOp .Not a pos) (Eh tA):=by
 intro pins s σ H Q I h;exact isTrue_not (ha pins s σ H (λc H1=>Q (!c) H1) I h)
abbrev Dz(ta tb:TE):TE:=λσ H Q=>ta σ H λx H1=>∃c,x=.bl c∧if c=true then tb σ H1 Q else Q (.bl false) H1
abbrev Ei(ta tb:TE):TE:=λσ H Q=>ta σ H λx H1=>∃c,x=.bl c∧if c=true then Q (.bl true) H1 else tb σ H1 Q
abbrev DB(ta:TE):TE:=λσ H Q=>ta σ H λx H1=>∃c,x=.bl c∧Q (.bl (!c)) H1
def Cm{op}{t:TE}(h:PE X a t):PE X (.BoolOp op [a] pos) t:=λpins s σ H Q I hw=>BoolOp_one (h pins s σ H Q I hw)
def L8(ha:PE X a ta)(hb:PE X (.BoolOp .And (b::rest) pos) tb):PE X (.BoolOp .And (a::b::rest) pos) (Dz ta tb):=by
 intro pins s σ H Q I h;refine BoolOp_and (ay (ha pins s σ H _ I h) λv s1 ⟨x,H1,I1,r1,q1⟩=>?_);let⟨c,rfl,q1⟩:=q1;cases r1;refine jP ?_;cases c with
 |true=>exact hb pins s1 σ H1 Q I1 q1
 |false=>exact⟨.bl false,H1,I1,rfl,q1⟩
def OG(ha:PE X a ta)(hb:PE X (.BoolOp .Or (b::rest) pos) tb):PE X (.BoolOp .Or (a::b::rest) pos) (Ei ta tb):=by
 intro pins s σ H Q I h;refine BoolOp_or (ay (ha pins s σ H _ I h) λv s1 ⟨x,H1,I1,r1,q1⟩=>?_);let⟨c,rfl,q1⟩:=q1;cases r1;refine jP ?_;cases c with
 |false=>exact hb pins s1 σ H1 Q I1 q1
 |true=>exact⟨.bl true,H1,I1,rfl,q1⟩
def L9(ha:PE X a ta):PE X (.UnaryOp .Not a pos) (DB ta):=by
 intro pins s σ H Q I h;refine UnaryOp_ (ay (ha pins s σ H _ I h) λv s1 ⟨x,H1,I1,r1,q1⟩=>?_);let⟨c,rfl,q1⟩:=q1;cases r1;exact not_of (jP ⟨.bl (!c),H1,I1,rfl,q1⟩)
abbrev E2(t:TT)(ta tb:TE):TE:=λσ H Q=>t σ H λc H1=>if c=true then ta σ H1 Q else tb σ H1 Q
def IK{c:Expr}(hc:PT X c tA)(ha:PE X a ta)(hb:PE X b tb):PE X (.IfExp c a b pos) (E2 tA ta tb):=by
 intro pins s σ H Q I h;refine wpAny_IfExp (ay (hc pins s σ H _ I h) λd s1 ⟨H1,I1,q1⟩=>?_);cases d with
 |true=>exact ha pins s1 σ H1 Q I1 q1
 |false=>exact hb pins s1 σ H1 Q I1 q1
end
def bf(K:Uw)(H:Hp)(a:Addr)(xs:List V):Prop :=
 Rd H a (.lst xs) ∨
  ∃(o:Obj) (its:Array Value) (n:Nat),K.lookup a=some o∧o.cls=.type "list" ∧ o.dict=none∧o.data=.seq its n∧its.size≤sizeLine∧Vals xs its.toList
def aQ(K:Uw)(H:Hp)(a:Addr)(xs:List V):Prop :=
 H a=some (.tup xs) ∨
  ∃(o:Obj) (its:Array Value) (n:Nat),K.lookup a=some o∧o.cls=.type "tuple" ∧ o.dict=none∧o.data=.seq its n∧its.size≤sizeLine∧4≤its.size∧Vals xs its.toList
def aQ.own{K:Uw}{H:Hp}{a:Addr}{xs:List V}(h:aQ K H a xs)(hl:xs.length<4):H a=some (.tup xs):=by
 rcases h with h|⟨_,its,_,_,_,_,_,_,h4,r⟩
 ·exact h
 ·have:=r.length;simp only[Array.length_toList]at this;omega
abbrev mx:Value→Option V
 |.none=>some .non
 |.bool b=>some (.bl b)
 |.int i _=>some (.int i)
 |.str x _=>some (.str x)
 |.bytes b _=>some (.dQ b)
 |.float b _=>some (.oV b)
 |.ref a=>some (.ref a)
 |.type n=>some (.ty n)
 |_=>none
def RelV.abs{x:V}{u:Value}(r:RelV x u):mx u=some x:=by
 cases x with
 |non=>cases r;rfl
 |bl _=>cases r;rfl
 |int _=>let⟨t,rfl⟩:=r;rfl
 |str _=>let⟨t,rfl⟩:=r;rfl
 |dQ _=>let⟨t,rfl⟩:=r;rfl
 |oV _=>let⟨t,rfl⟩:=r;rfl
 |ref _=>cases r;rfl
 |ty _=>cases r;rfl
def RelV.inj{x y:V}{u:Value}(r:RelV x u)(q:RelV y u):x=y:=cY (r.abs.symm.trans q.abs)
theorem Vals.inj:∀{xs ys:List V}{us:Uy},Vals xs us→Vals ys us→xs=ys
 |_,_,_,.nil,.nil=>rfl
 |_,_,_,.cons r t,.cons r' t'=>by rw[r.inj r',Vals.inj t t']
section
variable {X:Cx}{pins:Ux}{σ:St}{H:Hp}{s:Shared}{a:Addr}{xs ys:List V}
def aQ.of{K:Uw}(h:H a=some (.tup xs)):aQ K H a xs:=.inl h
def Inv.list(I:Inv X pins σ H s)(h:bf X.K H a xs):∃its:Uy,Vals xs its∧PlainL s.heap a its.toArray∧xs.length≤sizeLine:=by
 rcases h with h|⟨o,its,n,hk,hc,hd,hs,hz,r⟩
 ·let⟨z,its,n,r,e⟩:=h.ok I.aA;exact⟨its,r,⟨_,n,e,rfl,rfl,rfl⟩,z⟩
 ·refine⟨its.toList,r,⟨o,n,I.eR a o hk,hc,hd,by simpa using hs⟩,?_⟩;let e:=r.length;simp only[Array.length_toList]at e;omega
def Inv.tuple(I:Inv X pins σ H s)(h:aQ X.K H a xs):∃its:Uy,Vals xs its∧IsTup s.heap a its.toArray∧xs.length≤sizeLine:=by
 rcases h with h|⟨o,its,n,hk,hc,_,hs,hz,_,r⟩
 ·let⟨z,its,r,p⟩:=I.aA _ _ h;exact⟨its,r,p.tup,z⟩
 ·refine⟨its.toList,r,⟨o,I.eR a o hk,hc,n,by simpa using hs⟩,?_⟩;let e:=r.length;simp only[Array.length_toList]at e;omega
def Inv.qL(I:Inv X pins σ H s)(h:bf X.K H a xs)(h':bf X.K H a ys):xs=ys:=by
 let⟨its,r,⟨o,n,e,_,_,d⟩,_⟩:=I.list h;let⟨its',r',⟨o',n',e',_,_,d'⟩,_⟩:=I.list h';rw[e]at e';cases e';rw[d]at d';injection d' with d1 _;have:its=its':=by simpa using bT Array.toList d1
 subst this;exact r.inj r'
def Inv.vx(I:Inv X pins σ H s)(h:aQ X.K H a xs)(h':aQ X.K H a ys):xs=ys:=by
 let⟨its,r,⟨o,e,_,n,d⟩,_⟩:=I.tuple h;let⟨its',r',⟨o',e',_,n',d'⟩,_⟩:=I.tuple h';rw[e]at e';cases e';rw[d]at d';injection d' with d1 _;have:its=its':=by simpa using bT Array.toList d1
 subst this;exact r.inj r'
end
noncomputable abbrev Cx.wish(X:Cx)(E:Uu):Cx:={ X with xe:=E }
@[reducible]def Cx.ll(X:Cx):Cx:=X.wish λ_ _=>False
theorem Cx.Ok.wish{X:Cx}(ok:X.Ok)(E:Uu):(X.wish E).Ok :=
 ⟨ok.mod,ok.kind,ok.glob,ok.blt,ok.above,ok.inj,ok.has,ok.oX,ok.hd,ok.frames,ok.uv,ok.EW,ok.bs,ok.iT,ok.oh,ok.sv,ok.gH,ok.mX⟩
def Cx.Ok.jw{X:Cx}{E:Uu}(ok:(X.wish E).Ok):X.Ok :=
 ⟨ok.mod,ok.kind,ok.glob,ok.blt,ok.above,ok.inj,ok.has,ok.oX,ok.hd,ok.frames,ok.uv,ok.EW,ok.bs,ok.iT,ok.oh,ok.sv,ok.gH,ok.mX⟩
section
variable {X:Cx}{pins:Ux}{σ:St}{H:Hp}{s:Shared}{E:Uu}
theorem Inv.wish(I:Inv X pins σ H s)(E:Uu):Inv (X.wish E) pins σ H s:=⟨I.ok.wish E,I.os,I.bare,I.base,I.loc,I.cell,I.free,I.gG,I.pin,I.aA,I.len⟩
theorem Inv.jw(I:Inv (X.wish E) pins σ H s):Inv X pins σ H s:=⟨I.ok.jw,I.os,I.bare,I.base,I.loc,I.cell,I.free,I.gG,I.pin,I.aA,I.len⟩
theorem SP.jw{D:Ends}{f:Flow}{s':Shared}(h:SP (X.wish E) pins D f s'):SP X pins D f s':=by
 cases f with
 |next=>let⟨σ',H',I,q⟩:=h;exact⟨σ',H',I.jw,q⟩
 |brk=>let⟨σ',H',I,q⟩:=h;exact⟨σ',H',I.jw,q⟩
 |cont=>let⟨σ',H',I,q⟩:=h;exact⟨σ',H',I.jw,q⟩
 |ret u=>let⟨v,σ',H',I,r,q⟩:=h;exact⟨v,σ',H',I.jw,r,q⟩
theorem dR.ll{st:List Stmt}{t:TS}(h:dR X.ll st t):dR X st t:=λpins s σ H D I hw =>
 cZ (h pins s σ H D (I.wish _) hw) (λ_ _ q=>q.jw) λ_ _ z=>False.elim z
end
section
variable {X:Cx}{st:Stmt}{rest:List Stmt}{t u:TS}{e:Expr}{te:TE}{pos:Pos}
abbrev rL:TS:=λD σ H=>D.nx σ H
abbrev jL(t u:TS):TS:=λD σ H=>t { D with nx:=u D } σ H
def Kd:dR X [] rL:=λ_ _ σ H _ I h=>tT ⟨σ,H,I,h⟩
def IL(h1:PS X st t)(h2:dR X rest u):dR X (st::rest) (jL t u):=by
 intro pins s σ H D I h;refine wpAny_execs_cons (ay (h1 pins s σ H { D with nx:=u D } I h) λf s1 q=>?_);cases f with
 |next =>
  let⟨σ',H',I',q⟩:=q;exact h2 pins s1 σ' H' D I' q
 |ret v=>exact q
 |brk=>exact q
 |cont=>exact q
def Ke(h1:PS X st t):dR X [st] t:=by
 intro pins s σ H D I h;refine wpAny_execs_cons (ay (h1 pins s σ H D I h) λf s1 q=>?_);cases f with
 |next=>exact tT q
 |ret v=>exact q
 |brk=>exact q
 |cont=>exact q
def Inv.quiet{pins:Ux}{σ:St}{H:Hp}{s:Shared}(I:Inv X pins σ H s):interactive X.env=false:=by simp[interactive,I.ok.kind]
abbrev km(te:TE):TS:=λD σ H=>te σ H λ_ H1=>D.nx σ H1
def Kf(he:PE X e te)(hs:swapsWith e none pos.line X.env=pure false:=by rfl):PS X (.Expr e pos) (km te):=by
 intro pins s σ H D I h;exact wpAny_Expr_any (ay (he pins s σ H _ I h) λv s1 ⟨x,H1,I1,r1,q1⟩=>⟨σ,H1,I1,q1⟩) I.quiet hs
abbrev oi(te:TE):TS:=λD σ H=>te σ H D.rt
def Ma(he:PE X e te):PS X (.Return (some e) pos) (oi te):=by
 intro pins s σ H D I h;exact wpAny_Return_some (ay (he pins s σ H _ I h) λv s1 ⟨x,H1,I1,r1,q1⟩=>⟨x,σ,H1,I1,r1,q1⟩)
abbrev sC(c:TT)(t u:TS):TS:=λD σ H=>c σ H λb H1=>if b=true then t D σ H1 else u D σ H1
def OI{c:Expr}{a b:List Stmt}{tc:TT}(hc:PT X c tc)(ha:dR X a t)(hb:dR X b u):PS X (.If c a b pos) (sC tc t u):=by
 intro pins s σ H D I h;refine wpAny_If (ay (hc pins s σ H _ I h) λd s1 ⟨H1,I1,q1⟩=>?_);cases d with
 |true=>exact ha pins s1 σ H1 D I1 q1
 |false=>exact hb pins s1 σ H1 D I1 q1
end
noncomputable abbrev TG:=V→St→Hp→(St→Hp→Prop)→Prop
noncomputable abbrev fL:=List V→St→Hp→(St→Hp→Prop)→Prop
def PG(X:Cx)(target:Expr)(t:TG):Prop :=
 ∀(pins:Ux) (s:Shared) (σ:St) (H:Hp) (v:V) (u:Value) (Q:St→Hp→Prop),Inv X pins σ H s→RelV v u→t v σ H Q →
  wpAny (model X.prog X.w) X.A (assign target X.env u) (λ_ s'=>∃σ' H',Inv X pins σ' H' s'∧Q σ' H') X.xe s
def mY(X:Cx)(ts:U2)(t:fL):Prop :=
 ∀(pins:Ux) (s:Shared) (σ:St) (H:Hp) (vs:List V) (us:Uy) (Q:St→Hp→Prop),Inv X pins σ H s→Vals vs us→t vs σ H Q →
  wpAny (model X.prog X.w) X.A (assignInOrder ((assignEach ts X.env).map (·.2)) us) (λ_ s'=>∃σ' H',Inv X pins σ' H' s'∧Q σ' H') X.xe s
noncomputable abbrev wR:=V→V→V→Hp→(Hp→Prop)→Prop
def Ej(X:Cx)(t:wR):Prop :=
 ∀(pins:Ux) (s:Shared) (σ:St) (H:Hp) (o i v:V) (ov iv u:Value) (Q:Hp→Prop),Inv X pins σ H s→RelV o ov→RelV i iv→RelV v u→t o i v H Q →
  wpAny (model X.prog X.w) X.A (setItem ov iv u) (λ_ s'=>∃H',Inv X pins σ H' s'∧Q H') X.xe s
section
variable {X:Cx}{pos:Pos}
abbrev ft(i:Nat):TG:=λv σ H Q=>Q (σ.set i (some v)) H
def qX{i:Nat}{x:Str}(hN:X.N.Nodup)(hi:X.N[i]?=some x)(hx:Loc X.env.scope x)(hf:X.fn x=true∨X.env.scope.names.lookup x=some .local:=by first|exact .inl rfl|exact .inr rfl|assumption):PG X (.Name x pos) (ft i):=by
 intro pins s σ H v u Q I r h;exact wpAny_assign_Name (AO I hN hi hx r (λs' I'=>⟨_,H,I',h⟩) hf)
abbrev wU:fL:=λvs σ H Q=>vs=[]∧Q σ H
abbrev rM(t:TG)(u:fL):fL:=λvs σ H Q=>∃v r,vs=v::r∧t v σ H λσ' H'=>u r σ' H' Q
def Bn:mY X [] wU:=by
 intro pins s σ H vs us Q I r h;let⟨e,h⟩:=h;subst e;cases r;exact assignInOrder_nil ⟨σ,H,I,h⟩
def vC{e:Expr}{es:U2}{t:TG}{u:fL}(h1:PG X e t)(h2:mY X es u)
  (hs:(assignEach (e::es) X.env).map (·.2)=assign e X.env::(assignEach es X.env).map (·.2):=by rfl):mY X (e::es) (rM t u):=by
 intro pins s σ H vs us Q I r h;let⟨v,vr,e1,h⟩:=h;subst e1;cases r with
 |cons r rr =>
  rw[hs];refine assignInOrder_cons (ay (h1 pins s σ H _ _ _ I r h) λ_ s1 ⟨σ1,H1,I1,q1⟩=>?_);exact h2 pins s1 σ1 H1 _ _ Q I1 rr q1
abbrev wV(K:Uw)(n:Nat)(t:fL):TG:=λv σ H Q=>∃a xs,v=.ref a∧aQ K H a xs∧xs.length=n∧t xs σ H Q
def Cp{es:U2}{k:Nat}{t:fL}{n:Nat}(hc:X.calm=true)(h:mY X es t)
  (hn:(assignEach es X.env).length=n:=by rfl) (mZ:(assignEach es X.env).findIdx? (·.1)=none:=by rfl):PG X (.Tuple es k pos) (wV X.K n t):=by
 intro pins s σ H v u Q I r hw;let⟨a,xs,e1,hq,hl,hw⟩:=hw;subst e1;cases r;let⟨its,rv,ht,hz⟩:=I.tuple hq;refine assign_Tuple_tuple (I.ok.hd hc) ht (by simp[hn,←hl,rv.length]) mZ λh' hx=>?_;let I1:Inv X pins σ H { s with heap:=h' }:=I.kept (t':=s.toks) λb o e=>hx b o (cR (bu e)) e;exact h pins _ σ H xs _ Q I1 (by simpa using rv) hw
abbrev Ek(to ti:TE)(t:wR):TG:=λv σ H Q=>to σ H λo H1=>ti σ H1 λi H2=>t o i v H2 λH3=>Q σ H3
def Mb{o i:Expr}{to ti:TE}{t:wR}(ho:PE X o to)(hi:PE X i ti)(hs:Ej X t)
  (ha:∀v,assign (.Subscript o i pos) X.env v=(do
   let ov ←holding [v] (eval o X.env)
   let iv ←holding [v,ov] (eval i X.env)
   standAt pos
   holding [v,ov,iv] (setItem ov iv v)
   release [v,ov,iv] []):=by intro _;rfl):PG X (.Subscript o i pos) (Ek to ti t):=by
 intro pins s σ H v u Q I r h;rw[ha];refine ax (k0 (ay (ho pins s σ H _ I h) λov s1 ⟨x,H1,I1,r1,q1⟩=>?_));refine ax (k0 (ay (hi pins s1 σ H1 _ I1 q1) λiv s2 ⟨y,H2,I2,r2,q2⟩=>?_));refine ax (tU (ax (k0 (ay (hs pins s2 σ H2 x y v ov iv u _ I2 r1 r2 r q2) λ_ s3 ⟨H3,I3,q3⟩=>?_))));exact wpAny_release ⟨σ,H3,I3,q3⟩
abbrev gJ(te:TE)(g:TG):TS:=λD σ H=>te σ H λx H1=>g x σ H1 D.nx
def Md{tg e:Expr}{te:TE}{g:TG}(he:PE X e te)(hg:PG X tg g)(hs:swapsWithSole [tg] e pos.line X.env=pure false:=by rfl)(hw:swappedStores [tg] e X.env=pure none:=by rfl)
  (h1:(assignEach [tg] X.env).map (·.2)=[assign tg X.env]:=by rfl):PS X (.Assign [tg] e pos) (gJ te g):=by
 intro pins s σ H D I h;refine wpAny_Assign_stores (ay (he pins s σ H _ I h) λv s1 ⟨x,H1,I1,r1,q1⟩=>?_) hs hw;rw[h1];exact ay (hg pins s1 σ H1 x v _ I1 r1 q1) λ_ s2 q=>q
def Mf{i:Nat}{x:Str}{e:Expr}{te:TE}{pos':Pos}(hN:X.N.Nodup)(hi:X.N[i]?=some x)(hx:Loc X.env.scope x)(he:PE X e te)(hs:swapsWith e (some (.Name x pos')) pos.line X.env=pure false:=by rfl)(hf:X.fn x=true∨X.env.scope.names.lookup x=some .local:=by first|exact .inl rfl|exact .inr rfl|assumption) :
  PS X (.Assign [.Name x pos'] e pos) (gJ te (ft i)):=by
 intro pins s σ H D I h;refine wpAny_Assign_Name (ay (he pins s σ H _ I h) λv s1 ⟨y,H1,I1,r1,q1⟩=>?_) hs;exact AO I1 hN hi hx r1 (λs2 I2=>⟨_,H1,I2,q1⟩) hf
end
section
variable {X:Cx}{pos:Pos}
abbrev v9(c:TT)(tb:TS):TS:=λD σ H=>∃W:Nat→St→Hp→Prop,(∃m,W m σ H)∧∀m σ H,W m σ H →
 c σ H λb H1=>if b=true then ∃N:St→Hp→Prop,(∀σ' H',N σ' H'→∃m',m'<m∧W m' σ' H')∧tb { D with nx:=N,ct:=N,bk:=D.nx } σ H1 else D.nx σ H1
def IQ{c:Expr}{body:List Stmt}{tc:TT}{tb:TS}(hp:PassesOwn (model X.prog X.w) X.A X.env X.xe)(hc:PT X c tc)(hb:dR X body tb):PS X (.While c body [] pos) (v9 tc tb):=by
 intro pins s σ H D I h;let⟨W,⟨m0,w0⟩,turn⟩:=h;refine wpAny_While (codeAny_whileLoop (λn s'=>∃σ' H',Inv X pins σ' H' s'∧W n σ' H') ?_ m0 ⟨σ,H,I,w0⟩);rintro n s1 ⟨σ1,H1,I1,w1⟩;refine k7 hp (ay (hc pins s1 σ1 H1 _ I1 (turn n σ1 H1 w1)) λb s2 ⟨H2,I2,q2⟩=>?_);cases b with
 |true =>
  let⟨N,hN,q2⟩:=q2;rw[if_pos rfl];refine k7 hp (ay (hb pins s2 σ1 H2 _ I2 q2) λf s3 q3=>?_);cases f with
  |next =>
   let⟨σ3,H3,I3,n3⟩:=q3;let⟨m',hm,w3⟩:=hN σ3 H3 n3;exact⟨m',hm,σ3,H3,I3,w3⟩
  |cont =>
   let⟨σ3,H3,I3,n3⟩:=q3;let⟨m',hm,w3⟩:=hN σ3 H3 n3;exact⟨m',hm,σ3,H3,I3,w3⟩
  |brk=>exact q3
  |ret v=>exact q3
 |false =>
  rw[if_neg aL];exact tT ⟨σ1,H2,I2,q2⟩
end
structure It where
 go:Nat→Hp→Prop
 gW:Nat→Hp→V→Hp→Prop
 stop:Nat→Hp→Prop
def gK(X:Cx)(pins:Ux)(H:Hp)(b:Addr):Prop :=
 H b=none∧b≠X.env.locals∧b∉X.fs∧(b∈X.ex∨X.s₀.heap.objs.size≤b)∧(∀x c,X.env.cells.lookup x=some c→c≠b)∧∀p∈X.pn++pins,p.1≠b
def Inv.my{X:Cx}{pins:Ux}{σ:St}{H H':Hp}{s:Shared}{b:Addr}(I:Inv X pins σ H s)(hb:s.heap.objs.size≤b)(hn:H' b=none):gK X pins H' b:=by
 refine⟨hn,Nat.ne_of_gt (dB I.lt hb),I.P4 hb,.inr (cC I.sz hb),λx c e z=>?_,λp hp z=>?_⟩
 ·let⟨v,q⟩:=I.cell x c e;exact absurd (dB q.lt (by rw[z];exact hb)) (gR _)
 ·exact absurd (dB (bu (I.pin p hp).1) (by rw[z];exact hb)) (gR _)
structure Turn (P:Program)(w:World)(K:Uw)(tg:Expr)(J:It)(fp:List Addr)(it:Addr)(tn:Nat→Heap→Prop):Prop where
 mem:it∈fp
 obj:∀i h,tn i h→∀b∈fp,∃o,h.get? b=some o∧∀v,o.data≠.cell v
 keep:∀i h h',tn i h→(∀b∈fp,∀o,h.get? b=some o→h'.get? b=some o)→tn i h'
 item:∀(X:Cx),X.prog=P→X.w=w→X.K=K→X.calm=true→∀(i:Nat) (pins:Ux) (s:Shared) (σ:St) (H:Hp) (E:Uu),Inv X pins σ H s→(∀b∈fp,gK X pins H b)→tn i s.heap→J.go i H →
  wpAny (model P w) X.A (pyNext (.ref it)) (λr s1=>∃u,r=some u ∧
   wpAny (model P w) X.A (letOwnedTupleGo tg (.ref it) u) (λ_ s2=>∃x H',Inv X pins σ H' s2∧RelV x u∧J.gW i H x H'∧tn (i+1) s2.heap∧∀b∈fp,H' b=none) E s1) E s
 done:∀(X:Cx),X.prog=P→X.w=w→X.K=K→X.calm=true→∀(i:Nat) (pins:Ux) (s:Shared) (σ:St) (H:Hp) (E:Uu),Inv X pins σ H s→(∀b∈fp,gK X pins H b)→tn i s.heap→J.stop i H →
  wpAny (model P w) X.A (pyNext (.ref it)) (λr s1=>r=none∧Inv X pins σ H s1) E s
 self:∀(A:Around) (i:Nat) (s:Shared) (Q:Uu) (E:Uu),tn i s.heap→Q (.ref it) s→wpAny (model P w) A (pyIter (.ref it)) Q E s
noncomputable abbrev TI:=St→Hp→(It→Hp→Prop)→Prop
def E3(X:Cx)(pins:Ux)(σ:St)(tg:Expr)(R:It→Hp→Prop)(oZ:Value)(s2:Shared):Prop :=
 ∃(it:Addr) (fp:List Addr) (tn:Nat→Heap→Prop) (J:It) (H':Hp),oZ=.ref it∧Inv X pins σ H' s2∧Turn X.prog X.w X.K tg J fp it tn∧tn 0 s2.heap∧(∀b∈fp,gK X pins H' b)∧R J H'
def PI(X:Cx)(tg iter:Expr)(wi:TI):Prop :=
 ∀(pins:Ux) (s:Shared) (σ:St) (H:Hp) (R:It→Hp→Prop),Inv X pins σ H s→wi σ H R →
  wpAny (model X.prog X.w) X.A (eval iter X.env) (λv s1=>wpAny (model X.prog X.w) X.A (pyIter v) (E3 X pins σ tg R) X.xe s1) X.xe s
def nY{M:Model}{A:Around}{E:Uu}{s:Shared}{tg:Expr}{it:Addr}{u:Value}{o:Obj}{n:String}{vs:Array Value}{Q:Unit→Shared→Prop}(ho:s.heap.get? it=some o)(hc:o.cls=.type n)(hd:o.data=.fields vs)
    (hn:["enumerate", "zip", "dict_itemiterator", "dict_reverseitemiterator", "odict_iterator", "itertools.zip_longest", "itertools.pairwise"].contains n=false) (hQ:Q () s):wpAny M A (letOwnedTupleGo tg (.ref it) u) Q E s:=by
  unfold letOwnedTupleGo;cases tg<;>first
    |exact aS hQ
    | (cases u<;>first
        |exact aS hQ
        | (refine ax (wpAny_load ho ?_)
           rw[hc,hd];show wpAny M A (if (["enumerate", "zip", "dict_itemiterator", "dict_reverseitemiterator", "odict_iterator", "itertools.zip_longest", "itertools.pairwise"].contains n&&vs[0]?==some (rawInt _))=true then _ else _) Q E s;rw[if_neg (by intro h;rw[hn,Bool.false_and]at h;cases h)];exact aS hQ))
abbrev yr(K:Uw)(a:Addr):It :=
 ⟨λi H=>∃xs x,bf K H a xs∧xs[i]?=some x,λi H x H'=>H'=H∧∀xs,bf K H a xs→xs[i]?=some x,λi H=>∃xs,bf K H a xs∧xs.length≤i⟩
abbrev yt(K:Uw)(a:Addr):It :=
 ⟨λi H=>∃xs x,aQ K H a xs∧xs[i]?=some x,λi H x H'=>H'=H∧∀xs,aQ K H a xs→xs[i]?=some x,λi H=>∃xs,aQ K H a xs∧xs.length≤i⟩
abbrev ux(lo:Int)(n:Nat):It:=⟨λi _=>i<n,λi H x H'=>H'=H∧x=.int (lo+i),λi _=>n≤i⟩
def HF{P:Program}{w:World}{K:Uw}{tg:Expr}(a it:Addr):Turn P w K tg (yr K a) [it] it (λi h=>h.IsListIter it a i) where
 mem:=by simp
 obj:=λi h st b hb=>by
  let e:b=it:=by simpa using hb
  subst e;let⟨o,e,c,d⟩:=st;exact⟨o,e,λv z=>by rw[d]at z;cases z⟩
 keep:=λi h h' st k=>st.at λo e=>k it (by simp) o e
 item:=by
  intro X hP hw hK hc i pins s σ H E I hf st hg;subst hP hw hK;let⟨xs,x,hq,hx⟩:=hg;let⟨its,rv,p,hz⟩:=I.list hq;let⟨u,hu,ru⟩:=rv.get hx;let⟨f0,f1,f2,f3,f4,f5⟩:=hf it (by simp);refine wpAny_pyNext_list_item st p.isList (x:=u) (by simpa using hu) λh' eU sb=>?_;let I1:Inv X pins σ H { s with heap:=h' }:=I.turned (t':=s.toks) (λb o hb e=>(sb.2 b hb).trans e) f0 f1 f3 f4 f5;let⟨o,e,c,d⟩:=id eU;exact⟨u,rfl,nY (s:={ s with heap:=h' }) e c d (by decide) ⟨x,H,I1,ru,⟨rfl,λys hy=>by rw[I.qL hy hq];exact hx⟩,eU,λb hb=>(hf b hb).1⟩⟩
 done:=by
  intro X hP hw hK hc i pins s σ H E I hf st hg;subst hP hw hK;let⟨xs,hq,hx⟩:=hg;let⟨its,rv,p,hz⟩:=I.list hq;let⟨f0,f1,f2,f3,f4,f5⟩:=hf it (by simp);let hl:=rv.length;exact wpAny_pyNext_list_end (I.ok.hd hc) st p.isList (by simp;omega) λh' eb=>⟨rfl,I.turned (t':=s.toks) (λb o hb e=>eb b o hb e) f0 f1 f3 f4 f5⟩
 self:=λ_ _ _ _ _ st h=>wpAny_pyIter_listiter st h
def Hm{P:Program}{w:World}{K:Uw}{tg:Expr}(a it:Addr):Turn P w K tg (yt K a) [it] it (λi h=>h.IsTupleIter it a i) where
 mem:=by simp
 obj:=λi h st b hb=>by
  let e:b=it:=by simpa using hb
  subst e;let⟨o,e,c,d⟩:=st;exact⟨o,e,λv z=>by rw[d]at z;cases z⟩
 keep:=λi h h' st k=>st.at λo e=>k it (by simp) o e
 item:=by
  intro X hP hw hK hc i pins s σ H E I hf st hg;subst hP hw hK;let⟨xs,x,hq,hx⟩:=hg;let⟨its,rv,p,hz⟩:=I.tuple hq;let⟨u,hu,ru⟩:=rv.get hx;let⟨f0,f1,f2,f3,f4,f5⟩:=hf it (by simp);refine wpAny_pyNext_tuple_item st (show s.heap.IsTuple a its.toArray from p) (x:=u) (by simpa using hu) λh' eU sb=>?_;let I1:Inv X pins σ H { s with heap:=h' }:=I.turned (t':=s.toks) (λb o hb e=>(sb.2 b hb).trans e) f0 f1 f3 f4 f5;let⟨o,e,c,d⟩:=id eU;exact⟨u,rfl,nY (s:={ s with heap:=h' }) e c d (by decide) ⟨x,H,I1,ru,⟨rfl,λys hy=>by rw[I.vx hy hq];exact hx⟩,eU,λb hb=>(hf b hb).1⟩⟩
 done:=by
  intro X hP hw hK hc i pins s σ H E I hf st hg;subst hP hw hK;let⟨xs,hq,hx⟩:=hg;let⟨its,rv,p,hz⟩:=I.tuple hq;let⟨f0,f1,f2,f3,f4,f5⟩:=hf it (by simp);let hl:=rv.length;exact wpAny_pyNext_tuple_end (I.ok.hd hc) st (show s.heap.IsTuple a its.toArray from p) (by simp;omega) λh' eb=>⟨rfl,I.turned (t':=s.toks) (λb o hb e=>eb b o hb e) f0 f1 f3 f4 f5⟩
 self:=λ_ _ _ _ _ st h=>wpAny_pyIter_tupleiter st h
def Hn{P:Program}{w:World}{K:Uw}{tg:Expr}(it:Addr)(lo:Int)(n:Nat):Turn P w K tg (ux lo n) [it] it (λi h=>IsRangeIter h it (lo+(i:Nat)*1) ((n:Int)-(i:Nat)) 1) where
 mem:=by simp
 obj:=λi h st b hb=>by
  let e:b=it:=by simpa using hb
  subst e;exact⟨_,st,λv z=>by
   let z':Data.fields _=Data.cell v:=z;cases z'⟩
 keep:=λi h h' st k=>k it (by simp) _ st
 item:=by
  intro X hP hw hK hc i pins s σ H E I hf st hg;subst hP hw hK;let⟨f0,f1,f2,f3,f4,f5⟩:=hf it (by simp);let W:=Walks.range (prog:=X.prog) (w:=X.w) (I.ok.hd hc) it lo 1 n;refine W.item i s _ _ hg st λv h' tk hv eU kk=>?_;let⟨t,rfl⟩:=hv;let I1:Inv X pins σ H { s with heap:=h',toks:=tk }:=I.turned (λb o hb e=>kk b o (by simpa using hb) e) f0 f1 f3 f4 f5;refine⟨_,rfl,nY (s:={ s with heap:=h',toks:=tk }) (n := "range_iterator") eU rfl rfl (by decide) ⟨.int (lo+i),H,I1,⟨t,?_⟩,⟨rfl,rfl⟩,eU,λb hb=>(hf b hb).1⟩⟩;rw[Int.mul_one]
 done:=by
  intro X hP hw hK hc i pins s σ H E I hf st hg;subst hP hw hK;let⟨f0,f1,f2,f3,f4,f5⟩:=hf it (by simp);exact wpAny_pyNext_range_end (I.ok.hd hc) st (by have:n≤i:=hg;omega) λh' eb=>⟨rfl,I.turned (t':=s.toks) (λb o hb e=>eb b o hb e) f0 f1 f3 f4 f5⟩
 self:=λ_ _ _ _ _ st h=>wpAny_pyIter_rangeiter st h
section
variable {X:Cx}{tg:Expr}
def rN(K:Uw)(tl:TE):TI:=λσ H R=>tl σ H λx H1=>∃a,x=.ref a∧(∃xs,bf K H1 a xs)∧R (yr K a) H1
def wW(K:Uw)(tl:TE):TI:=λσ H R=>tl σ H λx H1=>∃a,x=.ref a∧(∃xs,aQ K H1 a xs)∧R (yt K a) H1
def Kg{l:Expr}{tl:TE}(hl:PE X l tl):PI X tg l (rN X.K tl):=by
 intro pins s σ H R I h;refine ay (hl pins s σ H _ I h) λv s1 ⟨x,H1,I1,r1,q1⟩=>?_;let⟨a,e,⟨xs,hq⟩,q⟩:=q1;subst e;cases r1;let⟨its,rv,p,hz⟩:=I1.list hq;refine wpAny_pyIter_list p.isList ?_;refine⟨s1.heap.objs.size,[s1.heap.objs.size],_,_,H1,rfl,I1.kept (t':=s1.toks) λb o e=>cJ _ e,HF a _,⟨_,eO _ rfl,rfl,rfl⟩,λb hb=>?_,q⟩;let e:b=s1.heap.objs.size:=by simpa using hb
 subst e;exact I1.my (aK _) (I1.aA.fresh (aK _))
def Mg{l:Expr}{tl:TE}(hl:PE X l tl):PI X tg l (wW X.K tl):=by
 intro pins s σ H R I h;refine ay (hl pins s σ H _ I h) λv s1 ⟨x,H1,I1,r1,q1⟩=>?_;let⟨a,e,⟨xs,hq⟩,q⟩:=q1;subst e;cases r1;let⟨its,rv,p,hz⟩:=I1.tuple hq;refine wpAny_pyIter_tuple (show s1.heap.IsTuple a its.toArray from p) ?_;refine⟨s1.heap.objs.size,[s1.heap.objs.size],_,_,H1,rfl,I1.kept (t':=s1.toks) λb o e=>cJ _ e,Hm a _,⟨_,eO _ rfl,rfl,rfl⟩,λb hb=>?_,q⟩;let e:b=s1.heap.objs.size:=by simpa using hb
 subst e;exact I1.my (aK _) (I1.aA.fresh (aK _))
def IU{pins:Ux}{σ:St}{H:Hp}{s:Shared}{R:It→Hp→Prop}{E:Uu}{lo hi:Int}{t u v:Tok}{tk:Nat}(I:Inv X pins σ H s)(h1:-(2^62)≤lo)(h2:lo<2^62)(h3:-(2^62)≤hi)(h4:hi<2^62)
  (q:R (ux lo (hi-lo).toNat) H):wpAny (model X.prog X.w) X.A (pyIter (.ref s.heap.objs.size)) (E3 X pins σ tg R) E { s with heap:=s.heap.push { cls:=.type "range",data:=.fields #[.int lo t,.int hi u,.int 1 v] },toks:=tk }:=by
 refine wpAny_pyIter_range (IsRange.new ..) (small_one h1 h2 h3 h4) ?_;let I1:Inv X pins σ H { s with heap:=s.heap.push { cls:=.type "range",data:=.fields #[.int lo t,.int hi u,.int 1 v] },toks:=tk }:=I.kept λb o e=>cJ _ e;refine⟨(s.heap.push { cls:=.type "range",data:=.fields #[.int lo t,.int hi u,.int 1 v] }).objs.size,[(s.heap.push { cls:=.type "range",data:=.fields #[.int lo t,.int hi u,.int 1 v] }).objs.size],_,_,H,rfl,
  I1.kept (t':=tk) λb o e=>cJ _ e,Hn _ lo (hi-lo).toNat,?_,λb hb=>?_,q⟩
 ·let e1:lo+((0:Nat):Int)*1=lo:=by simp
  let e2:(((hi-lo).toNat:Nat):Int)-((0:Nat):Int)=Builtin.Range.rangeSize lo hi 1:=by rw[rangeSize_one];split<;>omega
  show IsRangeIter _ _ (lo+((0:Nat):Int)*1) ((((hi-lo).toNat:Nat):Int)-((0:Nat):Int)) 1;rw[e1,e2];exact eO _ rfl
 ·let e:b=(s.heap.push { cls:=.type "range",data:=.fields #[.int lo t,.int hi u,.int 1 v] }).objs.size:=by simpa using hb
  subst e;exact I1.my (aK _) (I1.aA.fresh (aK _))
def DC(ta:TA):TI:=λσ H R=>ta σ H λvs H1=>∃j:Int,vs=[.int j]∧-(2^62)≤j∧j<2^62∧R (ux 0 j.toNat) H1
def HG {a:Expr}{ta:TA}{p pos:Pos} (hg:Gl X "range") (hm:X.mg "range" = none) (ha:PA X [a] ta) (hs:starEach [a] X.env=[(false,eval a X.env)]:=by rfl):PI X tg (.Call (.Name "range" p) [a] [] pos) (DC ta):=by
 intro pins s σ H R I h;refine Call_ (lQ I hg hm boot_range (tV (ay (ha pos pins s σ H _ I h) λus s1 ⟨vs,H1,I1,r1,q1⟩=>?_) hs rfl));let⟨j,e,q1,q2,q⟩:=q1;subst e;cases r1 with
 |cons r rr =>
  cases rr;let⟨t,rfl⟩:=r;exact call_range_1 (IU I1 (by omega) (by omega) q1 q2 (by simpa using q))
abbrev sE(wi:TI)(g:TG)(tb:TS):TS:=λD σ H=>wi σ H λJ H1=>∃W:Nat→Nat→St→Hp→Prop,(∃m,W 0 m σ H1)∧∀i m σ H,W i m σ H →
 (J.stop i H∧D.nx σ H)∨(J.go i H∧∃N:St→Hp→Prop,(∀σ' H',N σ' H'→∃m',m'<m∧W (i+1) m' σ' H')∧∀x H',J.gW i H x H'→g x σ H' λσ2 H2=>tb { D with nx:=N,ct:=N,bk:=D.nx } σ2 H2)
abbrev nR(fp:List Addr)(h:Heap):Ux:=fp.filterMap λb=>(h.get? b).map λo=>(b,o)
def qx{fp:List Addr}{h:Heap}{b:Addr}{o:Obj}(hb:b∈fp)(e:h.get? b=some o):(b,o)∈nR fp h:=xW.mpr ⟨b,hb,by rw[e];rfl⟩
def HJ{fp:List Addr}{h:Heap}{p:Addr×Obj}(hp:p∈nR fp h):p.1∈fp∧h.get? p.1=some p.2:=by
 let⟨b,hb,e⟩:=xW.mp hp;cases q:h.get? b with
 |none=>rw[q]at e;cases e
 |some o =>
  rw[q]at e;let e':(b,o)=p:=cY e;subst e';exact⟨hb,q⟩
def Inv.pinned{pins:Ux}{σ:St}{H:Hp}{s:Shared}{fp:List Addr}(I:Inv X pins σ H s)(hf:∀b∈fp,gK X pins H b)(ho:∀b∈fp,∃o,s.heap.get? b=some o∧∀v,o.data≠.cell v):Inv X (pins++nR fp s.heap) σ H s :=
 I.Bm λp hp=>(fG.mp hp).elim (λz=>I.pin p (eQ _ z)) λz=>by
  let⟨hb,e⟩:=HJ z;let⟨f0,f1,f2,_⟩:=hf p.1 hb;let⟨o,e',d⟩:=ho p.1 hb;rw[e]at e';cases e';exact⟨e,f0,f1,f2,d⟩
def Inv.qM{pins pl:Ux}{σ:St}{H:Hp}{s:Shared}(I:Inv X (pins++pl) σ H s):Inv X pins σ H s:=I.Bm λp hp=>I.pin p (eQ _ (iQ _ hp))
def Mh{iter:Expr}{body:List Stmt}{wi:TI}{g:TG}{tb:TS}{pos:Pos}(hp:PassesOwn (model X.prog X.w) X.A X.env X.xe)(hc:X.calm=true)(hi:PI X tg iter wi)(hg:PG X tg g)(hb:dR X body tb)
  (hs:∀x,foldedSetIterable iter X.env x=pure x:=by intro _;rfl):PS X (.For tg iter body [] pos) (sE wi g tb):=by
 intro pins s σ H D I h;refine wpAny_For (ay (hi pins s σ H _ I h) λv s1 h1=>ay h1 λoZ s2 h2=>?_) hs;let⟨it,fp,tn,J,H2,e,I2,T,aR,f2,W,⟨m0,w0⟩,turn⟩:=h2;subst e;let stat:∀{H':Hp},(∀b∈fp,H' b=none)→∀b∈fp,gK X pins H' b:=λhn b hb=>⟨hn b hb,(f2 b hb).2⟩;refine codeAny_forLoop_any (λn s'=>∃i σ' H',Inv X pins σ' H' s'∧tn i s'.heap∧(∀b∈fp,H' b=none)∧W i n σ' H') ?_ m0 ⟨0,σ,H2,I2,aR,λb hb=>(f2 b hb).1,w0⟩;rintro n s3 ⟨i,σ3,H3,I3,aZ,ph,w3⟩;rcases turn i n σ3 H3 w3 with⟨stop,qn⟩|⟨go,N,hN,step⟩
 ·refine k7 hp (ay (T.done X rfl rfl rfl hc i pins s3 σ3 H3 X.xe I3 (stat ph) aZ stop) λr s4 ⟨hr,I4⟩=>?_);subst hr;exact tT ⟨σ3,H3,I4,qn⟩
 ·refine k7 hp (ay (T.item X rfl rfl rfl hc i pins s3 σ3 H3 X.xe I3 (stat ph) aZ go) λr s4 ⟨u,hr,h4⟩=>?_);subst hr;refine k7 hp (ay h4 λ_ s5 ⟨x,H5,I5,r5,y5,dS,yu⟩=>?_);let yv:=I5.pinned (stat yu) (T.obj _ _ dS);refine k7 hp (ay (hg _ s5 σ3 H5 x u _ yv r5 (step x H5 y5)) λ_ s6 ⟨σ6,H6,I6,q6⟩=>?_);refine k7 hp (ay (hb _ s6 σ6 H6 _ I6 q6) λf s7 q7=>?_);let again:∀{σ7:St}{H7:Hp},Inv X (pins++nR fp s5.heap) σ7 H7 s7→N σ7 H7→∃m,m<n∧∃i σ' H',Inv X pins σ' H' s7∧tn i s7.heap∧(∀b∈fp,H' b=none)∧W i m σ' H':=λ{σ7 H7} I7 n7=>by
   let⟨m',hm,w7⟩:=hN σ7 H7 n7;refine⟨m',hm,i+1,σ7,H7,I7.qM,T.keep _ _ _ dS λb hb o e=>(I7.pin (b,o) (eQ _ (eQ _ (qx hb e)))).1,λb hb=>?_,w7⟩;let⟨o,e,d⟩:=T.obj _ _ dS b hb;exact(I7.pin (b,o) (eQ _ (eQ _ (qx hb e)))).2.1
  cases f with
  |next=>let⟨σ7,H7,I7,n7⟩:=q7;exact again I7 n7
  |cont=>let⟨σ7,H7,I7,n7⟩:=q7;exact again I7 n7
  |brk=>let⟨σ7,H7,I7,q7⟩:=q7;exact⟨σ7,H7,I7.qM,q7⟩
  |ret v=>let⟨x7,σ7,H7,I7,r7,q7⟩:=q7;exact⟨x7,σ7,H7,I7.qM,r7,q7⟩
end
noncomputable abbrev R2:=V→V→Hp→VK→Prop
def a8(X:Cx)(f:Value→Value→Sem Value)(r:R2):Prop :=
 ∀(pins:Ux) (s:Shared) (σ:St) (H:Hp) (x y:V) (v u:Value) (Q:VK),Inv X pins σ H s→RelV x v→RelV y u→r x y H Q →
  wpAny (model X.prog X.w) X.A (f v u) (EP X pins σ Q) X.xe s
def uz(X:Cx)(f:Value→Sem Value)(r:V→Hp→VK→Prop):Prop :=
 ∀(pins:Ux) (s:Shared) (σ:St) (H:Hp) (x:V) (v:Value) (Q:VK),Inv X pins σ H s→RelV x v→r x H Q →
  wpAny (model X.prog X.w) X.A (f v) (EP X pins σ Q) X.xe s
def f6(X:Cx)(f:Value)(r:List V→Hp→VK→Prop):Prop :=
 ∀(pins:Ux) (s:Shared) (σ:St) (H:Hp) (xs:List V) (us:Uy) (Q:VK),Inv X pins σ H s→Vals xs us→r xs H Q →
  wpAny (model X.prog X.w) X.A (call f us) (EP X pins σ Q) X.xe s
def P7(X:Cx)(r:V→Hp→(Bool→Hp→Prop)→Prop):Prop :=
 ∀(pins:Ux) (s:Shared) (σ:St) (H:Hp) (x:V) (v:Value) (Q:Bool→Hp→Prop),Inv X pins σ H s→RelV x v→r x H Q →
  wpAny (model X.prog X.w) X.A (truthy v) (TP X pins σ Q) X.xe s
abbrev iW(r:R2)(ta tb:TE):TE:=λσ H Q=>ta σ H λx H1=>tb σ H1 λy H2=>r x y H2 Q
abbrev E4(r:V→Hp→VK→Prop)(ta:TE):TE:=λσ H Q=>ta σ H λx H1=>r x H1 Q
abbrev rI(C:Int→Int→Prop)(g:Int→Int→V):R2:=λx y H Q=>∃i j,x=.int i∧y=.int j∧C i j∧Q (g i j) H
abbrev fM(g:Int→Int→V):R2:=λx y H Q=>∃i j,x=.int i∧y=.int j∧Q (g i j) H
def rU(g:Int→V):V→Hp→VK→Prop:=λx H Q=>∃i,x=.int i∧Q (g i) H
section
variable {X:Cx}{a b c:Expr}{ta tb tc:TE}{pos:Pos}
def wX(ha:PE X a ta)(hb:PE X b tb){pins:Ux}{s:Shared}{σ:St}{H:Hp}{R:V→V→Hp→Prop}(I:Inv X pins σ H s)
  (h:ta σ H λx H1=>tb σ H1 λy H2=>R x y H2) {Q:Uu}{f:Value→Value→Sem Value}
  (hf:∀v u s2 x y H2,Inv X pins σ H2 s2→RelV x v→RelV y u→R x y H2→wpAny (model X.prog X.w) X.A (f v u) Q X.xe s2) :
  wpAny (model X.prog X.w) X.A (eval a X.env) (λv s₁=>wpAny (model X.prog X.w) X.A (eval b X.env) (λu s₂=>wpAny (model X.prog X.w) X.A (f v u) Q X.xe s₂) X.xe s₁) X.xe s:=by
 refine ay (ha pins s σ H _ I h) λv s1 ⟨x,H1,I1,r1,q1⟩=>?_;refine ay (hb pins s1 σ H1 _ I1 q1) λu s2 ⟨y,H2,I2,r2,q2⟩=>?_;exact hf v u s2 x y H2 I2 r1 r2 q2
def OJ{op:Operator}{r:R2}(ho:a8 X (binaryOp op) r)(ha:PE X a ta)(hb:PE X b tb):PE X (.BinOp a op b pos) (iW r ta tb):=by
 intro pins s σ H Q I h;exact wpAny_BinOp (wX ha hb I h λv u s2 x y H2 I2 rx ry q=>ho pins s2 σ H2 x y v u Q I2 rx ry q)
def OL{op:UnaryOp}{r:V→Hp→VK→Prop}(ho:uz X (unaryOp op) r)(ha:PE X a ta):PE X (.UnaryOp op a pos) (E4 r ta):=by
 intro pins s σ H Q I h;exact UnaryOp_ (ay (ha pins s σ H _ I h) λv s1 ⟨x,H1,I1,r1,q1⟩=>ho pins s1 σ H1 x v Q I1 r1 q1)
def uA{f:Value→Value→Sem Value}{C:Int→Int→Prop}{g:Int→Int→Int}
  (rule:∀(i j:Int) (t u:Tok) (s:Shared) (Q:Uu) (E:Uu),C i j→Q (.int (g i j) s.toks) { s with toks:=s.toks+1 }→wpAny (model X.prog X.w) X.A (f (.int i t) (.int j u)) Q E s) :
  a8 X f (rI C λi j=>.int (g i j)):=by
 intro pins s σ H x y v u Q I rx ry h;let⟨i,j,rfl,rfl,hc,q⟩:=h;let⟨t,rfl⟩:=rx;let⟨t',rfl⟩:=ry;exact rule i j t t' s _ _ hc ⟨.int (g i j),H,I.tok _,⟨_,rfl⟩,q⟩
def El{f:Value→Value→Sem Value}{g:Int→Int→Int}
  (rule:∀(i j:Int) (t u:Tok) (s:Shared) (Q:Uu) (E:Uu),Q (.int (g i j) s.toks) { s with toks:=s.toks+1 }→wpAny (model X.prog X.w) X.A (f (.int i t) (.int j u)) Q E s) :
  a8 X f (fM λi j=>.int (g i j)):=by
 intro pins s σ H x y v u Q I rx ry h;let⟨i,j,rfl,rfl,q⟩:=h;let⟨t,rfl⟩:=rx;let⟨t',rfl⟩:=ry;exact rule i j t t' s _ _ ⟨.int (g i j),H,I.tok _,⟨_,rfl⟩,q⟩
def Em{f:Value→Value→Sem Value}{g:Int→Int→Bool}
  (rule:∀(i j:Int) (t u:Tok) (s:Shared) (Q:Uu) (E:Uu),Q (.bool (g i j)) s→wpAny (model X.prog X.w) X.A (f (.int i t) (.int j u)) Q E s) :
  a8 X f (fM λi j=>.bl (g i j)):=by
 intro pins s σ H x y v u Q I rx ry h;let⟨i,j,rfl,rfl,q⟩:=h;let⟨t,rfl⟩:=rx;let⟨t',rfl⟩:=ry;exact rule i j t t' s _ _ ⟨.bl (g i j),H,I,rfl,q⟩
def En(i j:Int):Prop:=0≤j∧j≤1000000∧i.natAbs<2^64
def oj(i j:Int):Prop:=(-(2^64)<i∧i<2^64)∨(-(2^64)<j∧j<2^64)
def oj.ok{i j:Int}(h:oj i j):IntMulOk i j:=by
 rcases h with⟨h1,h2⟩|⟨h1,h2⟩
 ·exact .of_left (intBits_le_64 h1 h2)
 ·exact .of_right (intBits_le_64 h1 h2)
def Mi:a8 X (binaryOp .Add) (fM λi j=>.int (i+j)):=El λ_ _ _ _ _ _ _ q=>add_int q
def Mj:a8 X (binaryOp .Sub) (fM λi j=>.int (i-j)):=El λ_ _ _ _ _ _ _ q=>sub_int q
def Ml:a8 X (binaryOp .Mult) (rI oj λi j=>.int (i*j)):=uA λ_ _ _ _ _ _ _ hc q=>mul_int q hc.ok
def Mm:a8 X (binaryOp .Mod) (rI (λ_ j=>0<j) λi j=>.int (i%j)):=uA λi j _ _ _ _ _ hc q=>by
 let h1:(0:Int)<j:=hc;exact mod_int' (by omega) (by rw[Int.fmod_eq_emod_of_nonneg i (by omega)];exact q)
def Mp:a8 X (binaryOp .Pow) (rI En λi j=>.int (i^j.toNat)):=uA λ_ _ _ _ _ _ _ hc q=>pow_int_small hc.1 hc.2.1 hc.2.2 q
def QN{f:Value→Sem Value}{g:Int→Int}
  (rule:∀(i:Int) (t:Tok) (s:Shared) (Q:Uu) (E:Uu),Q (.int (g i) s.toks) { s with toks:=s.toks+1 }→wpAny (model X.prog X.w) X.A (f (.int i t)) Q E s) :
  uz X f (rU λi=>.int (g i)):=by
 intro pins s σ H x v Q I rx h;let⟨i,rfl,q⟩:=h;let⟨t,rfl⟩:=rx;exact rule i t s _ _ ⟨.int (g i),H,I.tok _,⟨_,rfl⟩,q⟩
def Mq:uz X (unaryOp .USub) (rU λi=>.int (-i)):=QN λ_ _ _ _ _ q=>neg_int q
end
abbrev sF:V→V→Bool
 |.non,.non=>true|.non,.int _=>true|.int _,.non=>true|.non,.bl _=>true|.bl _,.non=>true|.non,.str _=>true|.str _,.non=>true
 |.int _,.int _=>true|.bl _,.bl _=>true|.str _,.str _=>true|.dQ _,.dQ _=>true
 |.int _,.str _=>true|.str _,.int _=>true|.bl _,.str _=>true|.str _,.bl _=>true
 |_,_=>false
def E5:R2:=λx y H Q=>sF x y=true∧Q (.bl (decide (x=y))) H
def E6:R2:=λx y H Q=>sF x y=true∧Q (.bl (!decide (x=y))) H
def Bp{i j:Int}:decide (V.int i=V.int j)=(i==j):=by
 rw[mP];simp
def Cq{i j:Bool}:decide (V.bl i=V.bl j)=(i==j):=by
 rw[mP];simp
def Bq{i j:Str}:decide (V.str i=V.str j)=(i==j):=by
 rw[mP];simp
def Br{i j:Array UInt8}:decide (V.dQ i=V.dQ j)=(i.toList==j.toList):=by
 rw[mP];cases i;cases j;simp
section
variable {X:Cx}{a b c:Expr}{ta tb tc:TE}{pos:Pos}
def bF{pins:Ux}{σ:St}{H:Hp}{s:Shared}{Q:VK}{k k':Bool}(I:Inv X pins σ H s)(q:Q (.bl k) H)(e:k=k'):EP X pins σ Q (.bool k') s:=by
 subst e;exact⟨.bl k,H,I,rfl,q⟩
def OO:a8 X (compareOp .Eq) E5:=by
 intro pins s σ H x y v u Q I rx ry h;let⟨hs,q⟩:=h;cases x with
 |non =>
  cases rx;cases y with
  |non=>cases ry;exact PySem.EqNone.eq_none_none (bF I q (by simp))
  |bl j=>cases ry;exact PySem.EqNone.eq_none_bool (bF I q (by simp))
  |int j=>let⟨t',rfl⟩:=ry;exact PySem.EqNone.eq_none_int (bF I q (by simp))
  |str j=>let⟨t',rfl⟩:=ry;exact PySem.EqNone.eq_none_str (bF I q (by simp))
  |_=>exact absurd (show false=true from hs) aL
 |bl i =>
  cases rx;cases y with
  |non=>cases ry;exact PySem.EqNone.eq_bool_none (bF I q (by simp))
  |bl j=>cases ry;exact eq_bool (bF I q Cq)
  |str j=>let⟨t',rfl⟩:=ry;exact PySem.EqMixed.eq_bool_str (bF I q (by simp))
  |_=>exact absurd (show false=true from hs) aL
 |int i =>
  let⟨t,rfl⟩:=rx;cases y with
  |non=>cases ry;exact PySem.EqNone.eq_int_none (bF I q (by simp))
  |int j=>let⟨t',rfl⟩:=ry;exact eq_int (bF I q Bp)
  |str j=>let⟨t',rfl⟩:=ry;exact PySem.EqMixed.eq_int_str (bF I q (by simp))
  |_=>exact absurd (show false=true from hs) aL
 |str i =>
  let⟨t,rfl⟩:=rx;cases y with
  |non=>cases ry;exact PySem.EqNone.eq_str_none (bF I q (by simp))
  |bl j=>cases ry;exact PySem.EqMixed.eq_str_bool (bF I q (by simp))
  |int j=>let⟨t',rfl⟩:=ry;exact PySem.EqMixed.eq_str_int (bF I q (by simp))
  |str j=>let⟨t',rfl⟩:=ry;exact eq_str (bF I q Bq)
  |_=>exact absurd (show false=true from hs) aL
 |dQ i =>
  let⟨t,rfl⟩:=rx;cases y with
  |dQ j=>let⟨t',rfl⟩:=ry;exact PySem.W.eq_bytes (bF I q Br)
  |_=>exact absurd (show false=true from hs) aL
 |_=>cases y<;>exact absurd (show false=true from hs) aL
def OQ:a8 X (compareOp .NotEq) E6:=by
 intro pins s σ H x y v u Q I rx ry h;let⟨hs,q⟩:=h;cases x with
 |non =>
  cases rx;cases y with
  |non=>cases ry;exact PySem.EqNone.ne_none_none (bF I q (by simp))
  |bl j=>cases ry;exact PySem.EqNone.ne_none_bool (bF I q (by simp))
  |int j=>let⟨t',rfl⟩:=ry;exact PySem.EqNone.ne_none_int (bF I q (by simp))
  |str j=>let⟨t',rfl⟩:=ry;exact PySem.EqNone.ne_none_str (bF I q (by simp))
  |_=>exact absurd (show false=true from hs) aL
 |bl i =>
  cases rx;cases y with
  |non=>cases ry;exact PySem.EqNone.ne_bool_none (bF I q (by simp))
  |bl j=>cases ry;exact ne_bool (bF I q (bT not Cq))
  |str j=>let⟨t',rfl⟩:=ry;exact PySem.EqMixed.ne_bool_str (bF I q (by simp))
  |_=>exact absurd (show false=true from hs) aL
 |int i =>
  let⟨t,rfl⟩:=rx;cases y with
  |non=>cases ry;exact PySem.EqNone.ne_int_none (bF I q (by simp))
  |int j=>let⟨t',rfl⟩:=ry;exact ne_int (bF I q (bT not Bp))
  |str j=>let⟨t',rfl⟩:=ry;exact PySem.EqMixed.ne_int_str (bF I q (by simp))
  |_=>exact absurd (show false=true from hs) aL
 |str i =>
  let⟨t,rfl⟩:=rx;cases y with
  |non=>cases ry;exact PySem.EqNone.ne_str_none (bF I q (by simp))
  |bl j=>cases ry;exact PySem.EqMixed.ne_str_bool (bF I q (by simp))
  |int j=>let⟨t',rfl⟩:=ry;exact PySem.EqMixed.ne_str_int (bF I q (by simp))
  |str j=>let⟨t',rfl⟩:=ry;exact ne_str (bF I q (bT not Bq))
  |_=>exact absurd (show false=true from hs) aL
 |dQ i =>
  let⟨t,rfl⟩:=rx;cases y with
  |dQ j=>let⟨t',rfl⟩:=ry;exact PySem.W.ne_bytes (bF I q (bT not Br))
  |_=>exact absurd (show false=true from hs) aL
 |_=>cases y<;>exact absurd (show false=true from hs) aL
def OS:a8 X (compareOp .Lt) (fM λi j=>.bl (decide (i<j))):=Em λ_ _ _ _ _ _ _ q=>lt_int q
def OU:a8 X (compareOp .Gt) (fM λi j=>.bl (decide (j<i))):=Em λ_ _ _ _ _ _ _ q=>gt_int q
def Mr:a8 X (compareOp .Is) (λx y H Q=>y=.non∧Q (.bl (decide (x=.non))) H):=by
 intro pins s σ H x y v u Q I rx ry h;let⟨rfl,q⟩:=h;cases ry;refine is_none_gen (bF I q ?_);cases x<;>first
  | (cases rx;rfl)
  | (let⟨t,rfl⟩:=rx;rfl)
def Kh:a8 X (compareOp .IsNot) (λx y H Q=>y=.non∧Q (.bl (!decide (x=.non))) H):=by
 intro pins s σ H x y v u Q I rx ry h;let⟨rfl,q⟩:=h;cases ry;refine isnot_none_gen (bF I q ?_);cases x<;>first
  | (cases rx;rfl)
  | (let⟨t,rfl⟩:=rx;rfl)
def Ki{op:CmpOp}{r:R2}(ho:a8 X (compareOp op) r)(ha:PE X a ta)(hb:PE X b tb)(hm:behindInMarks op b=false):PE X (.Compare a [op] [b] pos) (iW r ta tb):=by
 intro pins s σ H Q I h;exact wpAny_Compare1 (wX ha hb I h λv u s2 x y H2 I2 rx ry q=>ho pins s2 σ H2 x y v u Q I2 rx ry q) hm
abbrev wG(t:TE):TT:=λσ H Q=>t σ H λx H'=>∃k,x=.bl k∧Q k H'
def Kj{op:CmpOp}{r:R2}(ho:a8 X (compareOp op) r)(ha:PE X a ta)(hb:PE X b tb)(hm:behindInMarks op b=false):PT X (.Compare a [op] [b] pos) (wG (iW r ta tb)):=by
 intro pins s σ H Q I h;refine wpAny_isTrue_Compare1 (ay (ha pins s σ H _ I h) λv s1 ⟨x,H1,I1,r1,q1⟩=>ay (hb pins s1 σ H1 _ I1 q1) λu s2 ⟨y,H2,I2,r2,q2⟩ =>
  ay (ho pins s2 σ H2 x y v u _ I2 r1 r2 q2) λc s3 ⟨z,H3,I3,r3,k,e,q3⟩=>?_) hm
 subst e;cases r3;exact jP ⟨H3,I3,q3⟩
abbrev Cr(r r':R2)(ta tb tc:TE):TE:=λσ H Q=>ta σ H λx H1=>tb σ H1 λy H2=>r x y H2 λz H3=>∃k,z=.bl k ∧
 (if k=true then tc σ H3 λw' H4=>r' y w' H4 Q else Q (.bl false) H3)
def IV{op op':CmpOp}{r r':R2}(ho:a8 X (compareOp op) r)(iU:a8 X (compareOp op') r')(ha:PE X a ta)(hb:PE X b tb)(hc:PE X c tc)
  (hm:lastMarks [op,op'] [b,c]=false:=by with_unfolding_all rfl):PT X (.Compare a [op,op'] [b,c] pos) (wG (Cr r r' ta tb tc)):=by
 intro pins s σ H Q I h;refine isTrue_chain (ay (ha pins s σ H _ I h) λv s1 ⟨x,H1,I1,r1,q1⟩=>test_link (ay (hb pins s1 σ H1 _ I1 q1) λu s2 ⟨y,H2,I2,r2,q2⟩ =>
  ay (ho pins s2 σ H2 x y v u _ I2 r1 r2 q2) λd s3 ⟨z,H3,I3,r3,k,e,q3⟩=>?_)) hm
 subst e;cases r3;refine jP ?_;cases k with
 |false =>
  let⟨k',e',q'⟩:=q3;cases e';exact ite_ff ⟨H3,I3,q'⟩
 |true =>
  refine ite_tt (test_last (ay (hc pins s3 σ H3 _ I3 q3) λw' s4 ⟨z',H4,I4,r4,q4⟩=>ay (iU pins s4 σ H4 y z' u w' _ I4 r2 r4 q4) λd' s5 ⟨z2,H5,I5,r5,k2,e2,q5⟩=>?_));subst e2;cases r5;exact jP ⟨H5,I5,q5⟩
def sH(K:Uw)(x:V)(H:Hp)(k:Bool):Prop :=
 match x with
 |.non=>k=false
 |.bl b=>k=b
 |.int i=>k=(i != 0)
 |.str y=>y.length≤sizeLine∧k=((y.length:Int) != 0)
 |.dQ y=>y.size≤sizeLine∧k=((y.size:Int) != 0)
 |.ref p=>(∃xs,bf K H p xs∧k=!xs.isEmpty)∨(∃xs,aQ K H p xs∧k=!xs.isEmpty)∨∃ae,H p=some (.dK ae)∧k=!ae.isEmpty
 |_=>False
def Ho{κ:Type}{ae:List (κ×V)}{vs:List (κ×Value)}(r:KV ae vs):(!vs.isEmpty)=!ae.isEmpty:=by
 cases r<;>rfl
def z7{xs:List V}{its:Uy}(r:Vals xs its):(!its.toArray.isEmpty)=!xs.isEmpty:=by
 cases r<;>simp
def lR:(sizeLine:Nat)<2^63:=by rw[tW];decide
def wa:P7 X (λx H Q=>∃k,sH X.K x H k∧Q k H):=by
 intro pins s σ H x v Q I rx h;let⟨k,e,q⟩:=h;let hl:=lR;let hs:sizeLine=16777216:=tW;cases x with
 |non =>
  cases rx;let e':k=false:=e;subst e';exact truthy_none ⟨H,I,q⟩
 |bl b =>
  cases rx;let e':k=b:=e;subst e';exact jP ⟨H,I,q⟩
 |int i =>
  let⟨t,rfl⟩:=rx;let e':k=(i != 0):=e;subst e';exact PySem.P.truthy_int ⟨H,I,q⟩
 |str y =>
  let⟨t,rfl⟩:=rx;obtain⟨hy,e'⟩:y.length≤sizeLine∧k=((y.length:Int) != 0):=e;subst e';exact PySem.P.truthy_str (by omega) ⟨H,I.tok _,q⟩
 |dQ y =>
  let⟨t,rfl⟩:=rx;obtain⟨hy,e'⟩:y.size≤sizeLine∧k=((y.size:Int) != 0):=e;subst e';exact PySem.W.truthy_bytes (by omega) ⟨H,I.tok _,q⟩
 |ref p =>
  cases rx;let e':(∃xs,bf X.K H p xs∧k=!xs.isEmpty)∨(∃xs,aQ X.K H p xs∧k=!xs.isEmpty)∨∃ae,H p=some (.dK ae)∧k=!ae.isEmpty:=e;rcases e' with⟨xs,hx,e'⟩|⟨xs,hx,e'⟩|⟨ae,hx,e'⟩
  ·subst e';let⟨its,r,pl,hz⟩:=I.list hx;let hlen:=r.length;exact wpAny_truthy_list pl.isList (by simp only[List.size_toArray];omega) ⟨H,I.tok _,by rw[z7 r];exact q⟩
  ·subst e';let⟨its,r,pl,hz⟩:=I.tuple hx;let hlen:=r.length;exact truthy_tuple pl (by simp only[List.size_toArray];omega) ⟨H,I.tok _,by rw[z7 r];exact q⟩
  ·subst e';obtain⟨hz,hS,vs,r,m⟩:ae.length≤sizeLine∧(p==sysModules)=false∧∃vs,KV ae vs∧s.heap.DictOf (bJ X.prog X.w) p vs:=I.aA p _ hx;let hlen:ae.length=vs.length:=cf r;exact wpAny_truthy_dict hS m (by omega) ⟨H,I.tok _,by rw[Ho r];exact q⟩
 |_=>exact(show False from e).elim
def IW(ha:PE X a ta)(he:∀whole,isTrue a X.env whole=(do let v ←whole;standAt a.pos;holding [v] (truthy v))) :
  PT X a (λσ H Q=>ta σ H λx H'=>∃k,sH X.K x H' k∧Q k H'):=by
 intro pins s σ H Q I h;exact isTrue_plain (ay (ha pins s σ H _ I h) λv s1 ⟨x,H1,I1,r1,q1⟩=>wa pins s1 σ H1 x v Q I1 r1 q1) (he _)
def Hq:a8 X (binaryOp .Add) (λx y H Q=>∃i j,x=.str i∧y=.str j∧i.length+j.length≤sizeLine∧Q (.str (i++j)) H):=by
 intro pins s σ H x y v u Q I rx ry h;let⟨i,j,rfl,rfl,hz,q⟩:=h;let⟨t,rfl⟩:=rx;let⟨t',rfl⟩:=ry;exact add_str (λt' tk=>⟨.str (i++j),H,I.tok _,⟨_,rfl⟩,q⟩) hz
def vals1{x:V}{us:Uy}(r:Vals [x] us):∃u,us=[u]∧RelV x u:=by
 cases r with
 |cons r1 r2=>cases r2;exact⟨_,rfl,r1⟩
def vals2{x y:V}{us:Uy}(r:Vals [x,y] us):∃u w',us=[u,w']∧RelV x u∧RelV y w':=by
 cases r with
 |cons r1 r2 =>
  cases r2 with
  |cons r3 r4=>cases r4;exact⟨_,_,rfl,r1,r3⟩
def HK:f6 X (.type "int") (λxs H Q=>(∃i,xs=[.int i]∧Q (.int i) H)∨∃k,xs=[.bl k]∧Q (.int (if k then 1 else 0)) H):=by
 intro pins s σ H xs us Q I r h;rcases h with⟨i,rfl,q⟩|⟨k,rfl,q⟩
 ·let⟨u,rfl,t,rfl⟩:=vals1 r;exact call_int_int ⟨.int i,H,I,⟨_,rfl⟩,q⟩
 ·let⟨u,rfl,r1⟩:=vals1 r;cases r1;exact call_int_bool ⟨.int (if k then 1 else 0),H,I.tok _,⟨_,rfl⟩,q⟩
def wY(K:Uw)(x:V)(H:Hp)(n:Nat):Prop :=
 match x with
 |.str y=>y.length≤sizeLine∧n=y.length
 |.dQ y=>y.size≤sizeLine∧n=y.size
 |.ref p=>(∃xs,bf K H p xs∧n=xs.length)∨∃xs,aQ K H p xs∧n=xs.length
 |_=>False
def IX:f6 X (.builtin "len") (λxs H Q=>∃x n,xs=[x]∧wY X.K x H n∧Q (.int n) H):=by
 intro pins s σ H xs us Q I r h;let⟨x,n,rfl,e,q⟩:=h;let⟨u,rfl,rx⟩:=vals1 r;let hl:=lR;let hs:sizeLine=16777216:=tW;cases x with
 |str y =>
  let⟨t,rfl⟩:=rx;obtain⟨hy,e'⟩:y.length≤sizeLine∧n=y.length:=e;subst e';exact len_str (by omega) ⟨.int _,H,I.tok _,⟨_,rfl⟩,q⟩
 |dQ y =>
  let⟨t,rfl⟩:=rx;obtain⟨hy,e'⟩:y.size≤sizeLine∧n=y.size:=e;subst e';exact PySem.W.len_bytes (by omega) ⟨.int _,H,I.tok _,⟨_,rfl⟩,q⟩
 |ref p =>
  cases rx;let e':(∃xs,bf X.K H p xs∧n=xs.length)∨∃xs,aQ X.K H p xs∧n=xs.length:=e;rcases e' with⟨xs,hx,e'⟩|⟨xs,hx,e'⟩
  ·subst e';let⟨its,r',pl,hz⟩:=I.list hx;let hlen:=r'.length;exact Calls.call_len_list pl.isList (by simp only[List.size_toArray];omega) ⟨.int xs.length,H,I.tok _,⟨_,by simp only[List.size_toArray];rw[hlen]⟩,q⟩
  ·subst e';let⟨its,r',pl,hz⟩:=I.tuple hx;let hlen:=r'.length;exact len_tuple pl (by simp only[List.size_toArray];omega) ⟨.int xs.length,H,I.tok _,⟨_,by simp only[List.size_toArray];rw[hlen]⟩,q⟩
 |_=>exact(show False from e).elim
end
structure Ts (h:Heap)(x dx C:Addr)(mA:Str→Option Value):Prop where
 obj:h.get? x=some (PySem.W.instObj C dx)
 ns:h.Ns1 dx mA
 ne:dx≠x
section
variable {prog:Program}{w:World}{A:Around}{E:Uu}{s:Shared}{K:Uw}{x dx C f:Addr}{mA:Str→Option Value}{name:Str}{v:Value}
end
def gd.some_of{v:V}{o:Option Value}(r:gd (some v) o):∃u,o=some u∧RelV v u:=by
 cases o with
 |none=>exact(show False from r).elim
 |some u=>exact⟨u,rfl,r⟩
section
variable {P:Program}{w:World}{H H':Hp}{h h':Heap}{a C dx:Addr}{fs QJ:List (Str×V)}
end
structure QO (K:Uw)(C:Addr):Prop where
 pg:PySem.W.plainGet K C Str.empty=true
 hd:PySem.W.hasDictIn K C=true
 po:PySem.W.plainOver K C=true
 sa:PySem.W.findIn K (.ref C) "__setattr__" = some (some (.builtin "object.__setattr__"))
structure TC (K:Uw)(C:Addr)(f:Str)(v:V)(u:Value):Prop where
 at_:PySem.W.findIn K (.ref C) f=some (some u)
 rel:RelV v u
 get:PySem.W.specialIn K u "__get__" = some none
 cp:PySem.W.copiedNames.contains f=false
structure Meth (K:Uw)(C:Addr)(m:Str)(f:Addr):Prop where
 at_:PySem.W.findIn K (.ref C) m=some (some (.ref f))
 fn:PySem.W.isFn K (.ref f)=true
 kp:PySem.W.keepIn K (.ref f)=true
section
variable {X:Cx}{pins:Ux}{σ:St}{H:Hp}{s:Shared}{a C dx:Addr}{fs:List (Str×V)}{f:Str}{v:V}{A:Around}{E:Uu}
end
section
variable {X:Cx}{o e value:Expr}{f:Str}{pos pos' P8:Pos}{ta tv:TE}
def wZ:V→V→Hp→VK→Prop:=λx y H Q=>∃i j,x=.int i∧y=.int j∧Q (.int (i+j)) H
end
section
variable {X:Cx}{pins:Ux}{σ:St}{H:Hp}{s:Shared}{A:Around}{E:Uu}{Q:Uu}{c:Value}{b:Bool}
inductive gM (K:Uw)(H:Hp):V→Value→Prop where
 |non:gM K H .non (.type "NoneType")
 |bl (x:Bool):gM K H (.bl x) (.type "bool")
 |int (i:Int):gM K H (.int i) (.type "int")
 |str (x:Str):gM K H (.str x) (.type "str")
 |oV (x:UInt64):gM K H (.oV x) (.type "float")
 |lst {a:Addr}{xs:List V} (e:H a=some (.lst xs)):gM K H (.ref a) (.type "list")
 |ck {a:Addr}{o:Obj}{xs:List V} (e:H a=some (.ck o (.lst xs))):gM K H (.ref a) (.type "list")
 |tup {a:Addr}{xs:List V} (e:H a=some (.tup xs)):gM K H (.ref a) (.type "tuple")
 |dK {a:Addr}{ae:List (Key×V)} (e:H a=some (.dK ae)):gM K H (.ref a) (.type "dict")
 |dT {a:Addr}{ae:List (List Key×V)} (e:H a=some (.dT ae)):gM K H (.ref a) (.type "dict")
 |ins {a C dx:Addr}{fs:List (Str×V)} (e:H a=some (.ins C dx fs)) (cl:QO K C) (ha:PySem.W.findIn K (.ref C) "__class__" = some (some (.builtin "object.__class__")))
  (hn:PySem.W.specialIn K (.builtin "object.__class__") "__get__" = some (some (.builtin "getset_descriptor.__get__"))) (TF:PySem.W.takesIn K (.builtin "object.__class__")=some true)
  (hm:PySem.W.mroIn K C (.type "object")=some true):gM K H (.ref a) (.ref C)
end
structure cw (k:Nat)(A:Around):Prop where
 hd:A.handled=none
 dp:A.depth+3*k+5<recursionLimit
 un:A.units+16*k+200<cLine
def cw.mono{j k:Nat}{A:Around}(r:cw k A)(h:j≤k):cw j A:=⟨r.hd,by have:=r.dp;omega,by have:=r.un;omega⟩
theorem cw.deeper{k:Nat}{A:Around}(r:cw (k+1) A)(env:Env):cw k (A.deeper env) :=
 ⟨r.hd,by have:=r.dp;show A.depth+1+3*k+5<_;omega,by have:=r.un;show A.units+3+16*k+200<_;omega⟩
theorem cw.depth{k:Nat}{A:Around}(r:cw k A):A.depth<recursionLimit:=by have:=r.dp;omega
theorem cw.units{k:Nat}{A:Around}(r:cw k A):A.units+64<cLine:=by have:=r.un;omega
abbrev fA:TA:=λ_ H Q=>Q [] H
abbrev fu(ta:TE)(tr:TA):TA:=λσ H Q=>ta σ H λx H1=>tr σ H1 λxs H2=>Q (x::xs) H2
section
variable {X:Cx}{e:Expr}{es:U2}{te:TE}{t:TA}{pos:Pos}
def jz:PA X [] fA:=λ_ _ _ _ H Q I h=>Calls.spliced_nil ⟨[],H,I,.nil,h⟩
def ju(ha:PE X e te)(hr:PA X es t)(hs:starEach (e::es) X.env=(false,eval e X.env)::starEach es X.env:=by rfl):PA X (e::es) (fu te t):=by
 intro pos pins s σ H Q I h;rw[hs];show wpAny _ _ (spliced ((false,eval e X.env)::backTo pos (starEach es X.env))) _ _ s;refine oJ (ay (ha pins s σ H _ I h) λu s1 ⟨x,H1,I1,r1,q1⟩=>?_);exact ay (hr pos pins s1 σ H1 _ I1 q1) λus s2 ⟨xs,H2,I2,r2,q2⟩=>⟨x::xs,H2,I2,.cons r1 r2,q2⟩
def Eo(t:TA):TE:=λσ H Q=>t σ H λxs H1=>xs.length≤sizeLine∧∀p,H1 p=none→Q (.ref p) (upd H1 p (.tup xs))
def sJ(t:TA):TE:=λσ H Q=>t σ H λxs H1=>xs.length≤sizeLine∧∀p,H1 p=none→Q (.ref p) (upd H1 p (.lst xs))
def Ms{x1}(h:PA X es t):PE X (.Tuple es x1 pos) (Eo t):=by
 intro pins s σ H Q I hq;refine wpAny_Tuple_spliced (ay (h pos pins s σ H _ I hq) λus s1 ⟨xs,H1,I1,r,z,q⟩=>⟨by rw[←r.length];exact z,?_⟩);let hf:H1 s1.heap.objs.size=none:=I1.aA.fresh (aK _);refine⟨.ref s1.heap.objs.size,upd H1 s1.heap.objs.size (.tup xs),I1.laid (t':=s1.toks) (λb u e=>cJ _ e) (aK _) ?_,rfl,q _ hf⟩;exact⟨z,us,r,⟨_,eO _ rfl,rfl,rfl,_,rfl⟩⟩
def wc(h:PA X es t):PE X (.List es pos) (sJ t):=by
 intro pins s σ H Q I hq;refine wpAny_List_spliced (ay (h pos pins s σ H _ I hq) λus s1 ⟨xs,H1,I1,r,z,q⟩=>⟨by rw[←r.length];exact z,?_⟩);let hf:H1 s1.heap.objs.size=none:=I1.aA.fresh (aK _);refine⟨.ref s1.heap.objs.size,upd H1 s1.heap.objs.size (.lst xs),I1.laid (t':=s1.toks) (λb u e=>cJ _ e) (aK _) ?_,rfl,q _ hf⟩;exact⟨z,us,0,r,eO _ rfl⟩
end
noncomputable abbrev Sp:=List V→Hp→VK→XK→Prop
noncomputable abbrev gX:=List Env→Hp→Shared→XK→Uu
structure sM (P:Program)(w:World)(K:Uw)(mg:Str→Option Value)(base:Heap)(A:Around)(outer:List Env)(s:Shared)(H:Hp):Prop where
 frames:A.frames=some outer
 mod:Mod K mg base
 bs:∀b o,base.get? b=some o→s.heap.get? b=some o∧H b=none
 iT:base.objs.size≤s.heap.objs.size
 gH:s.heap.FunFrames base outer
 mX:∀b∈gu outer,H b=none
 aA:bK P w H s.heap
 bare:AllBare s.gens
def CE(outer:List Env)(P:Program)(w:World)(H:Hp)(s:Shared)(Q:VK)(u:Value)(s':Shared):Prop :=
 ∃v H',s'.os=s.os∧AllBare s'.gens∧Un (gu outer) [] H H' s.heap s'.heap∧bK P w H' s'.heap∧RelV v u∧Q v H'
def CR(CX:gX)(outer:List Env)(P:Program)(w:World)(H:Hp)(s:Shared)(Q:VK)(E:XK)(r:Result)(s':Shared):Prop :=
 match r with
 |.ok (.ret u)=>CE outer P w H s Q u s'
 |.ok _=>False
 |.error e=>CX outer H s E e s'
structure iN (P:Program)(w:World)(K:Uw)(mg:Str→Option Value)(base:Heap)(CX:gX)(k:Nat)(f:Addr)(fd:FuncData)(ps:U3)(sp:Sp):Prop where
 len:∀vs H Q E,sp vs H Q E→vs.length=ps.length
 run:∀(A:Around) (outer:List Env) (s:Shared) (H:Hp) (args:Args) (us:Uy) (vs:List V) (Q:VK) (E:XK),cw k A→sM P w K mg base A outer s H→BindsTo s fd args (ps.zip us)→Vals vs us→sp vs H Q E →
  codeAny (model P w) A (.call (.ref f) args) (CR CX outer P w H s Q E) s
section
variable {X:Cx}{pins:Ux}{σ:St}{H:Hp}{s s':Shared}
def Inv.P9(I:Inv X pins σ H s):sM X.prog X.w X.K X.mg X.base X.A X.stack s H :=
 ⟨I.ok.frames,I.ok.mod,I.bs,cC I.ok.iT I.sz,I.stack,I.Bl,I.aA,I.bare⟩
def Inv.after{Q:VK}{u:Value}(I:Inv X pins σ H s)(h:CE X.stack X.prog X.w H s Q u s'):EP X pins σ Q u s':=by
 let⟨v,H',os,bare,un,aA,r,q⟩:=h;let⟨hh,g,d,t,QP⟩:=s';obtain rfl:QP=s.os:=os;exact⟨v,H',I.call (h':=hh) (g':=g) (d':=d) (t':=t) (ch:=[]) un aA bare (λb z=>absurd z (by simp)),r,q⟩
end
abbrev nZ(sp:Sp)(jT:List V)(E:XK)(t:TA):TE:=λσ H Q=>t σ H λvs H1=>sp (vs++jT) H1 Q E
def Binds(K:Uw)(fd:FuncData)(ps:U3)(ds:Uy):Prop :=
 ∀(s:Shared) (us:Uy),K.In s.heap→(us++ds).length=ps.length→BindsTo s fd ⟨us,[]⟩ (ps.zip (us++ds))
def Binds.all{K:Uw}{fd:FuncData}{ps:U3}(h:∀us:Uy,us.length=ps.length→bindArgs fd ⟨us,[]⟩=pure (ps.zip us)):Binds K fd ps []:=λs us _ hl=>by
 rw[mQ]at hl ⊢;exact .of_eq (h us hl)
def Passes(CX:gX)(X:Cx)(E:XK):Prop:=∀(pins:Ux) (σ:St) (H:Hp) (s:Shared) (e:Value) (s':Shared),Inv X pins σ H s→CX X.stack H s E e s'→X.xe e s'
section
variable {X:Cx}{CX:gX}{k:Nat}{f C:Addr}{fd:FuncData}{ps:U3}{sp:Sp}{jT:List V}{ds:Uy}{E:XK}{x m:Str}{p pos apos:Pos}{e o:Expr}{es:U2}{ta:TE}{t:TA}
def Mt{pins:Ux}{σ:St}{H:Hp}{s:Shared}{Q:VK}{us:Uy}{vs:List V}(F:iN X.prog X.w X.K X.mg X.base CX k f fd ps sp)(hr:cw k X.A)(hb:Binds X.K fd ps ds)(hd:Vals jT ds)(hx:Passes CX X E)
  (I:Inv X pins σ H s) (r:Vals vs us) (h:sp (vs++jT) H Q E):wpAny (model X.prog X.w) X.A (call (.ref f) us) (EP X pins σ Q) X.xe s:=by
 let r2:Vals (vs++jT) (us++ds):=r.append hd;let hl:(us++ds).length=ps.length:=by rw[←r2.length];exact F.len _ _ _ _ h
 refine wpAny_call (codeAny_mono (F.run X.A X.stack s H ⟨us,[]⟩ (us++ds) (vs++jT) Q E hr I.P9 (hb s us I.eR hl) r2 h) λr s' hq=>?_);cases r with
 |error e=>exact hx pins σ H s e s' I hq
 |ok fl =>
  cases fl with
  |ret u=>exact I.after hq
  |next=>exact False.elim hq
  |brk=>exact False.elim hq
  |cont=>exact False.elim hq
def vK(F:iN X.prog X.w X.K X.mg X.base CX k f fd ps sp)(hr:cw k X.A)(hg:Gl X x)(hm:X.mg x=some (.ref f))(hk:PySem.W.keepIn X.K (.ref f)=true)(hb:Binds X.K fd ps ds)(hd:Vals jT ds)(hx:Passes CX X E)
  (ha:PA X (e::es) t) (pj:(x==("__debug__" : Str))=false:=by decide) (he:starEach (e::es) X.env=(false,eval e X.env)::starEach es X.env:=by rfl) (fN:(backTo pos (starEach es X.env)).any (·.1)=false:=by rfl) :
  PE X (.Call (.Name x p) (e::es) [] pos) (nZ sp jT E t):=by
 intro pins s σ H Q I h;refine xX (J9 I hg hm ?_ pj);refine PySem.W.callWith_K (h₀:=X.base) I.ok.mod.yl hk (ay (ha pos pins s σ H _ I h) λus s1 ⟨vs,H1,I1,r,q⟩=>⟨I1.eR,?_⟩) he fN;exact Mt F hr hb hd hx I1 r q
structure Mk (K:Uw)(C f:Addr):Prop where
 makes:PySem.W.makesIn K C=true
 init:PySem.W.findIn K (.ref C) "__init__" = some (some (.ref f))
 fn:PySem.W.isFn K (.ref f)=true
 kp:PySem.W.keepIn K (.ref C)=true
end
section
variable {X:Cx}{CX:gX}{k:Nat}{f C:Addr}{fd:FuncData}{ps ks:U3}{sp:Sp}{E:XK}{x m:Str}{p pos apos Tt:Pos}{e o:Expr}{es:U2}{kws:List Keyword}{te ta:TE}{t tk:TA}{nm:Option Str}
structure Tj (K:Uw)(fd:FuncData)(ps ks:U3)(g:Uy→Uy→Uy)(gV:List V→List V→List V):Prop where
 to:∀(s:Shared) (us ws:Uy),K.In s.heap→(g us ws).length=ps.length→BindsTo s fd ⟨us,ks.zip ws⟩ (ps.zip (g us ws))
 rel:∀{vs:List V}{us:Uy}{zs:List V}{ws:Uy},Vals vs us→Vals zs ws→Vals (gV vs zs) (g us ws)
variable {g:Uy→Uy→Uy}{gV:List V→List V→List V}
end
structure nI (N P:U3)(sc:Scope):Prop where
 kind:sc.kind=.function
 co:sc.isCoroutine=false
 gen:sc.isGenerator=false
 nd:N.Nodup
 pre:N.take P.length=P
 par:∀x∈P,sc.names.lookup x=some .local∨sc.names.lookup x=some .cell
 Mu:∀y∈sc.names,y.2≠.free
theorem Ar{kindOf:Str→Option NameKind}{x:Str}:∀{binds:List (Str×Value)}{m:Str→Option Value},(∀v,(x,v)∉binds)→bindL kindOf binds m x=m x
  |[],_,_=>rfl
  | (n,v)::r,m,h=>by
    unfold bindL;rw[Ar λw hw=>h w (bP _ hw)];split
    · have:x≠n:=by rintro rfl;exact h v bC
      simp[this]
    · rfl
theorem As{kindOf:Str→Option NameKind}{x:Str}:∀{binds:List (Str×Value)}{m:Str→Option Value},(∀v,(x,v)∉binds)→bindC kindOf binds m x=m x
  |[],_,_=>rfl
  | (n,v)::r,m,h=>by
    unfold bindC;rw[As λw hw=>h w (bP _ hw)];split
    · rfl
    · have:x≠n:=by rintro rfl;exact h v bC
      simp[this]
theorem Au{kindOf:Str→Option NameKind}{x:Str}{v:Value}:∀{P:U3}{vs:Uy}{i:Nat}{m:Str→Option Value},P.Nodup→P[i]?=some x→vs[i]?=some v→kindOf x=some .local →
  bindL kindOf (P.zip vs) m x=some v
 |[],_,_,_,_,h,_,_=>by simp at h
 |_::_,[],_,_,_,_,h,_=>by simp at h
 |p::P,w::vs,0,m,nd,h1,h2,hk=>by
  simp at h1 h2;subst h1;subst h2;show bindL kindOf ((p,w)::P.zip vs) m p=_;unfold bindL;rw[Ar λv hv=>(iR.mp nd).1 (xY hv).1,if_pos hk];simp
 |p::P,w::vs,i+1,m,nd,h1,h2,hk=>by
  show bindL kindOf ((p,w)::P.zip vs) m x=_;unfold bindL;exact Au (i:=i) (iR.mp nd).2 (by simpa using h1) (by simpa using h2) hk
theorem Av{kindOf:Str→Option NameKind}{x:Str}{v:Value}:∀{P:U3}{vs:Uy}{i:Nat}{m:Str→Option Value},P.Nodup→P[i]?=some x→vs[i]?=some v→kindOf x≠some .local →
  bindC kindOf (P.zip vs) m x=some v
 |[],_,_,_,_,h,_,_=>by simp at h
 |_::_,[],_,_,_,_,h,_=>by simp at h
 |p::P,w::vs,0,m,nd,h1,h2,hk=>by
  simp at h1 h2;subst h1;subst h2;show bindC kindOf ((p,w)::P.zip vs) m p=_;unfold bindC;rw[As λv hv=>(iR.mp nd).1 (xY hv).1,if_neg hk];simp
 |p::P,w::vs,i+1,m,nd,h1,h2,hk=>by
  show bindC kindOf ((p,w)::P.zip vs) m x=_;unfold bindC;exact Av (i:=i) (iR.mp nd).2 (by simpa using h1) (by simpa using h2) hk
abbrev start(N:U3)(vs:List V):St:=vs.map some++List.replicate (N.length-vs.length) none
abbrev jM(CX:gX)(P:Program)(w:World)(K:Uw)(mg:Str→Option Value)(base:Heap)(N:U3)(qual:Str)(scope:Scope)(f:Addr)(cd:Value)(A:Around)(outer:List Env)(s:Shared)(H:Hp)(E:XK):Cx where
 prog:=P
 w:=w
 K:=K
 mg:=mg
 base:=base
 A:=A.deeper (envOfC qual scope s.heap.objs.size f cd)
 N:=N
 s₀:=s
 H₀:=H
 env:=envOfC qual scope s.heap.objs.size f cd
 outer:=outer
 stack:=envOfC qual scope s.heap.objs.size f cd::outer
 ex:=[]
 calm:=true
 fn:=λ_=>true
 pn:=[]
 xe:=λe s'=>wpAny (model P w) (A.deeper (envOfC qual scope s.heap.objs.size f cd)) (leaving (envOfC qual scope s.heap.objs.size f cd) e) (λ_ yw=>CX outer H s E e yw) (λe' yw=>CX outer H s E e' yw) s'
def AQ{sc:Scope}{n:Nat}{x:Str}(h:sc.names.lookup x=some .cell):∃c,(cellsFrom n sc.names []).lookup x=some c:=by
 let q:=PySem.W.cellsFrom_some sc.names n [] (.inl h);exact Option.isSome_iff_exists.mp q
def HL{CX:gX}{P:Program}{w:World}{K:Uw}{mg:Str→Option Value}{base:Heap}{N ps:U3}{qual:Str}{scope:Scope}{f:Addr}{cd:Value}{A:Around}{outer:List Env}{s s1:Shared}{H:Hp}{E:XK}{us:Uy}{vs:List V}
  (S:nI N ps scope) (hd:A.handled=none) (e0:sM P w K mg base A outer s H) (hl:vs.length=ps.length) (r:Vals vs us)
  (x:InCallC s s.heap.objs.size (bindL (envOfC qual scope s.heap.objs.size f cd).kindOf (ps.zip us) λ_=>none) (cellsFrom (s.heap.objs.size+1) scope.names []) (bindC (envOfC qual scope s.heap.objs.size f cd).kindOf (ps.zip us) λ_=>none) s1) :
  Inv (jM CX P w K mg base N qual scope f cd A outer s H E) [] (start N vs) H s1:=by
 let fN:ps.length≤N.length:=by have:=bT List.length S.pre;rw[tX]at this;omega
 let⟨h1,tk,rfl,hk⟩:=x.done;let pv:∀b:Addr,b∉(jM CX P w K mg base N qual scope f cd A outer s H E).ex:=λb z=>absurd (show b∈([]:List Addr)from z) (by simp);refine⟨⟨e0.mod,S.kind,rfl,rfl,aK _,λy z c h1 h2=>?_,λy hy=>?_,λy c _ h=>?_,λ_=>hd,Around.frames_deeper e0.frames,.inr ⟨rfl,rfl⟩,λb z=>absurd z (pv b),e0.bs,e0.iT,λb _ _=>pv b,λb z=>absurd z (pv b),e0.gH,e0.mX⟩,
  rfl,e0.bare,Un.kept hk,⟨_,x.toInCall.ns,λi y v h1 h2 h3=>?_⟩,λy c h=>⟨_,x.cell y c h⟩,e0.aA.fresh (aK _),λy c h=>?_,λp hp=>absurd (show p∈([]:Ux)from hp) (by simp),e0.aA.kept hk,?_⟩
 ·exact name_of_addr x.apart (jQ h1) (jQ h2)
 ·let hy:scope.names.lookup y=some .cell∨scope.names.lookup y=some .free:=hy;rcases hy with hy|hy
  ·exact AQ hy
  ·exact absurd rfl (S.Mu _ (jQ hy))
 ·exact Nat.le_of_lt (x.above y c (jQ h))
 ·let hi:i<vs.length:=by
   unfold start at h2;by_cases hi:i<vs.length
   ·exact hi
   ·rw[List.getElem?_append_right (by simpa using hi)]at h2;rw[xZ]at h2;split at h2<;>cases h2
  let ha:vs[i]?=some v:=by
   unfold start at h2;rw[oK (by simpa using hi),dN]at h2;cases e:vs[i]? with
   |none=>rw[e]at h2;cases h2
   |some a=>rw[e]at h2;cases h2;rfl
  let⟨u,hu,rv⟩:=r.get ha;let hp:ps[i]?=some y:=by
   rw[←S.pre,List.getElem?_take_of_lt (by omega)];exact h1
  let E7:ps.Nodup:=by rw[←S.pre];exact S.nd.sublist (List.take_sublist _ _)
  refine⟨u,rv,?_⟩;rcases S.par y (c9 hp)with k|k
  ·exact .inl ⟨k,Au E7 hp hu k⟩
  ·let⟨c,e⟩:=AQ (n:=s.heap.objs.size+1) k;refine .inr ⟨.inl k,c,e,?_⟩;let q:=x.cell y c e;rw[Av E7 hp hu (by show scope.names.lookup y≠_;rw[k];decide)]at q;exact q
 ·exact e0.aA.fresh (Nat.le_of_lt (x.above y c (jQ h)))
 ·unfold start;show _=N.length;rw[cK,dC,tY];omega
def DF{CX:gX}{P:Program}{w:World}{K:Uw}{mg:Str→Option Value}{base:Heap}{k:Nat}{f:Addr}{name qual:Str}{params:Arguments}{body:List Stmt}{scope:Scope}{dV kV doc pm aX ct oc:Value}{an od:Uz}
  {gY:Array (Option Value)}{N ps:U3}{sp:Sp} (lk:K.lookup f=some ⟨oc,od,.func (PySem.W.fnOf name qual params body scope dV kV doc pm an aX ct),gY⟩) (fK:PySem.W.codeIn K aX qual=true) (S:nI N ps scope)
  (len:∀vs H Q E,sp vs H Q E→vs.length=ps.length)
  (n5:∀(A:Around) (outer:List Env) (s:Shared) (H:Hp) (vs:List V) (Q:VK) (E:XK),cw k (A.deeper (envOfC qual scope s.heap.objs.size f aX))→sp vs H Q E →
   ∃t,dR (jM CX P w K mg base N qual scope f aX A outer s H E) body t∧t { nx:=λ_ H'=>Q .non H',rt:=Q } (start N vs) H) :
  iN P w K mg base CX (k+1) f (PySem.W.fnOf name qual params body scope dV kV doc pm an aX ct) ps sp:=by
 refine⟨len,λA outer s H args us vs Q E hr e0 hb r iu=>?_⟩;let hl:=len _ _ _ _ iu;let KX:K.In s.heap:=e0.mod.yl.keeps λb o e=>(e0.bs b o e).1;let lim:s.heap.NoLimit:=e0.mod.nolimit.keeps λb o e=>(e0.bs b o e).1;let OV:∀y∈ps.zip us,scope.names.lookup y.1=some .local∨(scope.names.lookup y.1=some .cell∧((cellsFrom (s.heap.objs.size+1) scope.names []).lookup y.1).isSome=true):=λ⟨n,v⟩ hy=>by
  rcases S.par n (xY hy).1 with q|q
  ·exact .inl q
  ·exact .inr ⟨q,PySem.W.cellsFrom_some _ _ _ (.inl q)⟩
 refine codeAny_call_function hr.depth (KX _ _ lk) rfl S.co S.gen rfl (PySem.W.codeRec_of KX fK) (hb _ _ _ _ ?_);refine wpAny_newFunctionEnv_cells S.kind OV λenv he s1 x=>?_;subst he;refine⟨lim.keeps x.toInCall.keep,codeAny_func ?_⟩;let⟨t,ht,hq⟩:=n5 A outer s H vs Q E (hr.deeper _) iu;let I:Inv (jM CX P w K mg base N qual scope f aX A outer s H E) [] (start N vs) H s1:=HL S hr.hd e0 hl r x;refine cZ (ht [] s1 (start N vs) H _ I hq) (λfl s' hs=>?_) λe s' hs=>hs;let fin:∀{σ':St}{H':Hp}{v:V}{u:Value},Inv (jM CX P w K mg base N qual scope f aX A outer s H E) [] σ' H' s'→RelV v u→Q v H'→CE outer P w H s Q u s' :=
  λ{σ' H' v u} J rv q=>⟨v,H',J.os,J.bare,J.base,J.aA,rv,q⟩
 cases fl with
 |ret u =>
  let⟨v,σ',H',J,rv,q⟩:=hs;exact fin J rv q
 |next =>
  let⟨σ',H',J,q⟩:=hs;exact fin (v:=V.non) (u:=Value.none) J rfl q
 |brk =>
  let⟨_,_,_,q⟩:=hs;exact False.elim q
 |cont =>
  let⟨_,_,_,q⟩:=hs;exact False.elim q
section
variable {X:Cx}{x:Str}{p pos:Pos}{e:Expr}{es:U2}{t:TA}{id T:String}{r:List V→Hp→VK→Prop}
abbrev uB(r:List V→Hp→VK→Prop)(t:TA):TE:=λσ H Q=>t σ H λvs H1=>r vs H1 Q
def AU (hc:f6 X (.builtin id) r) (hg:Gl X x) (hm:X.mg x=none) (hv:bootBuiltins x=some (.builtin id)) (ha:PA X (e::es) t) (hn:x ≠ "__name__" := by decide) (pj:(x==("__debug__" : Str))=false:=by decide)
  (he:starEach (e::es) X.env=(false,eval e X.env)::starEach es X.env:=by rfl) (fN:(backTo pos (starEach es X.env)).any (·.1)=false:=by rfl):PE X (.Call (.Name x p) (e::es) [] pos) (uB r t):=by
 intro pins s σ H Q I h;refine xX (lQ I hg hm hv ?_ hn pj);exact PyProof.Rows.callWith_builtin1 (ay (ha pos pins s σ H _ I h) λus s1 ⟨vs,H1,I1,r1,q1⟩=>hc pins s1 σ H1 vs us Q I1 r1 q1) he fN
def qE (hc:f6 X (.type T) r) (hg:Gl X x) (hm:X.mg x=none) (hv:bootBuiltins x=some (.type T)) (ha:PA X (e::es) t) (hn:x ≠ "__name__" := by decide) (pj:(x==("__debug__" : Str))=false:=by decide)
  (he:starEach (e::es) X.env=(false,eval e X.env)::starEach es X.env:=by rfl) (fN:(backTo pos (starEach es X.env)).any (·.1)=false:=by rfl):PE X (.Call (.Name x p) (e::es) [] pos) (uB r t):=by
 intro pins s σ H Q I h;refine xX (lQ I hg hm hv ?_ hn pj);exact tV (ay (ha pos pins s σ H _ I h) λus s1 ⟨vs,H1,I1,r1,q1⟩=>hc pins s1 σ H1 vs us Q I1 r1 q1) he fN
end
end L2
namespace HT
open PySem PyProof.Rows
section
open PySem.SeqAt
open PySem.AutoSeq1 (wpAny_loadPart')
open PySem.MeetsSeq PySem.MeetsSeq2 PySem.MeetsSeq3
end
section
variable {prog:Program}{w:World}{A:Around}{E:Uu}{s:Shared}
def Kk{t b:Addr}{vs ws:Uy}{Q:Uu}(ht:IsTup s.heap t vs.toArray)(hb:IsTup s.heap b ws.toArray)(hv:vs≠[])
  (h1:ws=[]→Q (.ref t) s) (h2:ws≠[]→Q (.ref s.heap.objs.size) { s with heap:=s.heap.push { cls:=.type "tuple",data:=.seq (vs++ws).toArray } })
  (hsz:vs.length+ws.length≤sizeLine):wpAny (model prog w) A (binaryOp .Add (.ref t) (.ref b)) Q E s:=by
 let⟨⟨cls,dd,data,sl⟩,ho,hc,n,hd⟩:=id ht;let⟨⟨Qa,m3,data2,lq⟩,iw,jU,n2,hd2⟩:=id hb;simp only at hc hd jU hd2;subst hc hd jU hd2;let e:vs.toArray++ws.toArray=(vs++ws).toArray:=by simp
 by_cases hw:ws=[]
 ·exact tZ ⟨_,ho,rfl⟩ ⟨_,iw,rfl⟩ x3 seq_tuple_add x4 x5 (x6 _ _)
   (tuple_addW1 t b vs.toArray ws.toArray n n2 dd m3 sl lq (by simpa using hv) (by simp[hw])) ⟨ho,iw,h1 hw⟩
 ·refine tZ ⟨_,ho,rfl⟩ ⟨_,iw,rfl⟩ x3 seq_tuple_add x4 x5 (x6 _ _)
   (tuple_addW2 t b vs.toArray ws.toArray n n2 dd m3 sl lq (by simpa using hv) (by simpa using hw) (by rw[List.size_toArray,List.size_toArray];exact hsz)) ⟨ho,iw,?_⟩
  rw[e];exact h2 hw
end
end HT
namespace L2
open PySem PySem.Spec PyProof.Rows
noncomputable abbrev TO:=St→Hp→(Option Int→Hp→Prop)→Prop
def PO(X:Cx)(e:Option Expr)(t:TO):Prop :=
 ∀(pins:Ux) (s:Shared) (σ:St) (H:Hp) (Q:Option Int→Hp→Prop),Inv X pins σ H s→t σ H Q →
  wpAny (model X.prog X.w) X.A (evalPart e X.env) (λu s'=>∃o H',Inv X pins σ H' s'∧IsPart u o∧Q o H') X.xe s
abbrev Bs:TO:=λ_ H Q=>Q none H
abbrev DG(t:TE):TO:=λσ H Q=>t σ H λx H1=>∃i,x=.int i∧Q (some i) H1
section
variable {X:Cx}{e:Expr}{te:TE}{lo hi:Option Expr}{tl th:TO}{pos p2:Pos}
def Kl:PO X none Bs:=by
 intro pins s σ H Q I h;rw[evalPart_none];exact aS ⟨none,H,I,.none,h⟩
def Km(h:PE X e te):PO X (some e) (DG te):=by
 intro pins s σ H Q I hw;rw[evalPart_some];refine ay (h pins s σ H _ I hw) λu s1 ⟨x,H1,I1,r1,q1⟩=>?_;let⟨i,rfl,q⟩:=q1;let⟨t,rfl⟩:=r1;exact⟨some i,H1,I1,.int i t,q⟩
def TH(X:Cx)(r:V→Option Int→Option Int→Hp→VK→Prop):Prop :=
 ∀(pins:Ux) (s:Shared) (σ:St) (H:Hp) (x:V) (v vl vu:Value) (lo hi:Option Int) (sl:Addr) (Q:VK),Inv X pins σ H s→RelV x v→s.heap.IsSliceOf sl vl vu .none→IsPart vl lo→IsPart vu hi→r x lo hi H Q →
  ∃T id,typeLookup (.type T) "__getitem__" = pure (some (.builtin id))∧s.TypeIs v T∧wpAny (model X.prog X.w) X.A (getItem v (.ref sl)) (EP X pins σ Q) X.xe s
def OW(K:Uw):R2:=λx y H Q=>∃a b xs ys,x=.ref a∧y=.ref b∧aQ K H a xs∧aQ K H b ys∧xs≠[]∧xs.length+ys.length≤sizeLine ∧
 (ys=[]→Q (.ref a) H)∧(ys≠[]→∀p,H p=none→Q (.ref p) (upd H p (.tup (xs++ys))))
def Vals.vL{xs:List V}{us:Uy}(r:Vals xs us):us=[]↔xs=[]:=by
 cases r with
 |nil=>simp
 |cons _ _=>simp
def Kn:a8 X (binaryOp .Add) (OW X.K):=by
 intro pins s σ H x y v u Q I rx ry h;let⟨a,b,xs,ys,rfl,rfl,ha,hb,hx,hz,q1,q2⟩:=h;cases rx;cases ry;let⟨its,r1,p1,_⟩:=I.tuple ha;let⟨om,r2,p2,_⟩:=I.tuple hb;refine HT.Kk p1 p2 (λz=>hx (r1.vL.mp z)) (λz=>⟨.ref a,H,I,rfl,q1 (r2.vL.mp z)⟩) (λz=>?_) (by rw[←r1.length,←r2.length];exact hz);refine⟨.ref s.heap.objs.size,_,I.laid (t':=s.toks) (o:=.tup (xs++ys)) (λb ob q=>cJ _ q) (aK _) ?_,rfl,q2 (λw=>z (r2.vL.mpr w)) _ (I.aA.fresh (aK _))⟩;exact⟨by rw[cK];exact hz,_,r1.append r2,kM.new _ _⟩
end
abbrev cM(n:Nat)(i:Int):Option Nat:=if 0≤i then (if i<n then some i.toNat else none)else if -(n:Int)≤i then some (i+n).toNat else none
def aT{α:Type}(xs:List α)(i:Int):Option α:=(cM xs.length i).bind λj=>xs[j]?
def Bt{n:Nat}{i:Int}{j:Nat}(h:cM n i=some j):seqIndex? i n=some j∧j<n∧-(n:Int)≤i∧i<n:=by
 unfold cM at h;by_cases h0:0≤i
 ·rw[if_pos h0]at h;by_cases h1:i<n
  ·rw[if_pos h1]at h;let e:i.toNat=j:=cY h;exact⟨by rw[seqIndex_of h0 h1,e],by omega,by omega,h1⟩
  ·rw[if_neg h1]at h;cases h
 ·rw[if_neg h0]at h;by_cases h1:-(n:Int)≤i
  ·rw[if_pos h1]at h;let e:(i+n).toNat=j:=cY h;exact⟨by rw[seqIndex_neg (by omega) h1,e],by omega,h1,by omega⟩
  ·rw[if_neg h1]at h;cases h
def iI{α:Type}{xs:List α}{i:Int}{v:α}(h:aT xs i=some v):∃j,seqIndex? i xs.length=some j∧xs[j]?=some v∧j<xs.length∧-(xs.length:Int)≤i∧i<xs.length:=by
 unfold aT at h;cases e:cM xs.length i with
 |none=>rw[e]at h;cases h
 |some j =>
  rw[e]at h;let⟨h1,h2,h3,h4⟩:=Bt e;exact⟨j,h1,h,h2,h3,h4⟩
def kg{α:Type}{xs:List α}{j:Nat}{v:α}(h:xs[j]?=some v):aT xs (j:Int)=some v:=by
 let hj:j<xs.length:=(bQ.mp h).1;let e:cM xs.length (j:Int)=some j:=by
  unfold cM;rw[if_pos (by omega),if_pos (by omega)];simp
 unfold aT;rw[e];exact h
def Bu(b:Expr):Prop:=∀o i,subscripted b false o i=operate [o,i] (getItem o i)
def iy(X:Cx)(r:R2):Prop :=
 ∀(value slice:Expr) (pins:Ux) (s:Shared) (σ:St) (H:Hp) (x y:V) (v u:Value) (Q:VK),Inv X pins σ H s→RelV x v→RelV y u→r x y H Q →
  subscripted slice false v u=operate [v,u] (getItem v u)→wpAny (model X.prog X.w) X.A (subscriptTail value slice v u) (EP X pins σ Q) X.xe s
def uC(X:Cx)(id:String)(r:V→List V→Hp→VK→Prop):Prop :=
 ∀(pins:Ux) (s:Shared) (σ:St) (H:Hp) (x:V) (xs:List V) (v:Value) (us:Uy) (Q:VK),Inv X pins σ H s→RelV x v→Vals xs us→r x xs H Q →
  wpAny (model X.prog X.w) X.A (call (.builtin id) (v::us)) (EP X pins σ Q) X.xe s
section
variable {X:Cx}{a b:Expr}{ta tb:TE}{pos:Pos}
def iy.or{r r':R2}(h:iy X r)(h':iy X r'):iy X (λx y H Q=>r x y H Q∨r' x y H Q):=by
 intro value slice pins s σ H x y v u Q I rx ry q hs;rcases q with q|q
 ·exact h value slice pins s σ H x y v u Q I rx ry q hs
 ·exact h' value slice pins s σ H x y v u Q I rx ry q hs
def n6{r:R2}(hr:iy X r)(ha:PE X a ta)(hb:PE X b tb)(hs:Bu b):PE X (.Subscript a b pos) (iW r ta tb):=by
 intro pins s σ H Q I h;exact Subscript_ (wX ha hb I h λv u s2 x y H2 I2 rx ry q=>hr a b pins s2 σ H2 x y v u Q I2 rx ry q (hs _ _))
def Ep(K:Uw):R2:=λx y H Q=>∃p xs i v,x=.ref p∧y=.int i∧bf K H p xs∧aT xs i=some v∧Q v H
def Er(K:Uw):R2:=λx y H Q=>∃p xs i v,x=.ref p∧y=.int i∧aQ K H p xs∧aT xs i=some v∧Q v H
def Es:R2:=λx y H Q=>∃z i c,x=.str z∧y=.int i∧z.length≤sizeLine∧aT z.cps.toList i=some c∧Q (.str ⟨#[c]⟩) H
def Kp:iy X (Ep X.K):=by
 intro value slice pins s σ H x y v u Q I rx ry h hs;let⟨p,xs,i,z,rfl,rfl,hq,he,q⟩:=h;cases rx;let⟨t,rfl⟩:=ry;let⟨its,r,pl,hz⟩:=I.list hq;let⟨j,h1,h2,h3,h4,h5⟩:=iI he;let⟨w,ew,fO⟩:=r.get h2;let hl:=r.length;let hn:=lR;let fin:EP X pins σ Q w s:=⟨z,H,I,fO,q⟩;by_cases h0:0≤i
 ·let hj:i.toNat=j:=by
   rw[seqIndex_of h0 h5]at h1;exact cY h1
  exact item_listR pl.isList h0 (by omega) (by rw[hj];simpa using ew) fin hs
 ·let hj:(i+(its.toArray.size:Int)).toNat=j:=by
   rw[seqIndex_neg (by omega) h4]at h1;rw[dO,←hl];exact cY h1
  exact subscriptTail_builtinR (x:=w) pl.isList.typeIs slot_list_getitem.lookup
   (wpAny_getItem_list_neg (Q:=λr s'=>r=w∧EP X pins σ Q r s') pl.isList (by omega) (by rw[dO]<;>omega) (by omega) (by rw[hj];simpa using ew) ⟨rfl,fin⟩) hs
def Mv:iy X (Er X.K):=by
 intro value slice pins s σ H x y v u Q I rx ry h hs;let⟨p,xs,i,z,rfl,rfl,hq,he,q⟩:=h;cases rx;let⟨t,rfl⟩:=ry;let⟨its,r,pl,hz⟩:=I.tuple hq;let⟨j,h1,h2,h3,h4,h5⟩:=iI he;let⟨w,ew,fO⟩:=r.get h2;let hl:=r.length;let hn:=lR;let fin:EP X pins σ Q w s:=⟨z,H,I,fO,q⟩;exact subscriptTail_builtinR (x:=w) pl.typeIs slot_tuple_getitem.lookup
  (getItem_tuple (j:=j) (Q:=λr s'=>r=w∧EP X pins σ Q r s') pl (by omega) (by omega) (by rw[dO,←hl];exact h1) (by simpa using ew) ⟨rfl,fin⟩) hs
def Mw:iy X Es:=by
 intro value slice pins s σ H x y v u Q I rx ry h hs;let⟨z,i,c,rfl,rfl,hz,he,q⟩:=h;let⟨t,rfl⟩:=rx;let⟨t',rfl⟩:=ry;let⟨j,h1,h2,h3,h4,h5⟩:=iI he;let hl:z.cps.toList.length=z.length:=by simp[Str.length]
 rw[hl]at h1 h4 h5;let hn:=lR;exact tail_any (typeIs_str s z t) slot_str_getitem.lookup (getItem_str (c:=c) (by
  let e1:decide (i < -(2^63:Int))=false:=b5 (by omega);let e2:decide (i≥2^63)=false:=b5 (by omega);rw[e1,e2,Bool.or_false]) (by rw[h1];simpa using h2) ⟨.str ⟨#[c]⟩,H,I.tok _,⟨_,rfl⟩,q⟩) hs
def lu(K:Uw):R2:=λx y H Q=>Ep K x y H Q∨Er K x y H Q∨Es x y H Q
def Mx:iy X (lu X.K):=Kp.or (Mv.or Mw)
def Hr(its:Uy)(n j:Nat)(u:Value):Obj.mapSeq (·.setIfInBounds j u) { cls:=.type "list",data:=.seq its.toArray n }={ cls:=.type "list",data:=.seq (its.set j u).toArray n }:=by
 simp[Obj.mapSeq]
theorem Inv.lst{pins:Ux}{σ:St}{H:Hp}{s:Shared}{p:Addr}{xs:List V}(I:Inv X pins σ H s)(h:H p=some (.lst xs)) :
  ∃(its:Uy) (n:Nat),Vals xs its∧s.heap.get? p=some { cls:=.type "list",data:=.seq its.toArray n }∧xs.length≤sizeLine:=by
 let⟨z,its,n,r,e⟩:=I.aA p _ h;exact⟨its,n,r,e,z⟩
def Inv.Mz{pins:Ux}{σ:St}{H:Hp}{s:Shared}{p:Addr}{xs ys:List V}{its its':Uy}{n n':Nat}{f:Obj→Obj}(I:Inv X pins σ H s)(h:H p=some (.lst xs))
  (ho:s.heap.get? p=some { cls:=.type "list",data:=.seq its.toArray n }) (hf:f { cls:=.type "list",data:=.seq its.toArray n }={ cls:=.type "list",data:=.seq its'.toArray n' }) (r:Vals ys its') (hz:ys.length≤sizeLine) (t:Nat) :
  Inv X pins σ (upd H p (.lst ys)) { s with heap:=s.heap.update p f,toks:=t }:=by
 let e:(s.heap.update p f).get? p=some { cls:=.type "list",data:=.seq its'.toArray n' }:=by
  rw[Heap.get?_update_self f ho (by rw[hf]<;>rfl),hf]
 refine I.write (x:=p) (e:=p) (by rw[h];trivial) (.inl rfl) (λb u hb q=>(Heap.get?_update_other _ _ (ig hb)).trans q) ⟨_,e⟩ ?_;exact⟨hz,its',n',r,e⟩
def DH:V→V→V→Hp→(Hp→Prop)→Prop:=λo i v H Q=>∃p xs k j,o=.ref p∧i=.int k∧H p=some (.lst xs)∧cM xs.length k=some j∧Q (upd H p (.lst (xs.set j v)))
def set_list:Ej X DH:=by
 intro pins s σ H o i v ov iv u Q I ro ri rv h;let⟨p,xs,k,j,rfl,rfl,hp,hj,q⟩:=h;cases ro;let⟨t,rfl⟩:=ri;let⟨its,n,r,ho,hz⟩:=I.lst hp;let⟨h1,h2,h3,h4⟩:=Bt hj;let hl:=r.length;let hn:=lR;let I':Inv X pins σ (upd H p (.lst (xs.set j v))) { s with heap:=s.heap.update p (Obj.mapSeq (·.setIfInBounds j u)) } :=
  I.Mz hp ho (Hr its n j u) (r.set rv j) (by rw[gS];exact hz) s.toks
 by_cases h0:0≤k
 ·let hk:k.toNat=j:=by
   rw[seqIndex_of h0 h4]at h1;exact cY h1
  exact PySem.W.ki_setAt ho h0 (by omega) (by rw[dO,←hl];exact h4) (by rw[hk];exact⟨_,I',q⟩)
 ·let hk:(k+(its.toArray.size:Int)).toNat=j:=by
   rw[seqIndex_neg (by omega) h3]at h1;rw[dO,←hl];exact cY h1
  exact PySem.W.ki_setBack ho (by omega) (by rw[dO,←hl];exact h3) (by omega) (by rw[hk];exact⟨_,I',q⟩)
abbrev hJ:V→Bool
 |.non=>true
 |.bl _=>true
 |.int _=>true
 |.str _=>true
 |_=>false
abbrev jW:V→V→Bool
 |.non,.non=>true
 |.bl a,.bl b=>a==b
 |.bl a,.int b=>(if a then 1 else 0)==b
 |.int a,.bl b=>a==(if b then 1 else 0)
 |.int a,.int b=>a==b
 |.str a,.str b=>a==b
 |_,_=>false
def MA{A:Around}{s:Shared}{y x:V}{u v:Value}(ry:RelV y u)(rx:RelV x v)(fy:hJ y=true)(fx:hJ x=true):SeqAt.EqAt A s u v (jW y x):=by
 cases y with
 |non =>
  cases ry;cases x with
  |non=>cases rx;exact oH _
  |bl b=>cases rx;exact SeqAt.EqAt.none_bool b
  |int b=>let⟨t,rfl⟩:=rx;exact xU b t
  |str b=>let⟨t,rfl⟩:=rx;exact xV b t
  |_=>exact absurd (show false=true from fx) aL
 |bl a =>
  cases ry;cases x with
  |non=>cases rx;exact SeqAt.EqAt.bool_none a
  |bl b=>cases rx;exact SeqAt.EqAt.bool_bool a b
  |int b=>let⟨t,rfl⟩:=rx;exact SeqAt.EqAt.bool_int a b t
  |str b=>let⟨t,rfl⟩:=rx;exact SeqAt.EqAt.bool_str a b t
  |_=>exact absurd (show false=true from fx) aL
 |int a =>
  let⟨t',rfl⟩:=ry;cases x with
  |non=>cases rx;exact xR a t'
  |bl b=>cases rx;exact SeqAt.EqAt.int_bool a t' b
  |int b=>let⟨t,rfl⟩:=rx;exact SeqAt.EqAt.int_int a t' b t
  |str b=>let⟨t,rfl⟩:=rx;exact xQ a t' b t
  |_=>exact absurd (show false=true from fx) aL
 |str a =>
  let⟨t',rfl⟩:=ry;cases x with
  |non=>cases rx;exact xT a t'
  |bl b=>cases rx;exact SeqAt.EqAt.str_bool a t' b
  |int b=>let⟨t,rfl⟩:=rx;exact xS a t' b t
  |str b=>let⟨t,rfl⟩:=rx;exact SeqAt.EqAt.str_str a t' b t
  |_=>exact absurd (show false=true from fx) aL
 |_=>exact absurd (show false=true from fy) aL
def iX(x:V)(u:Value):Bool:=match u with
 |.none=>jW .non x
 |.bool b=>jW (.bl b) x
 |.int i _=>jW (.int i) x
 |.str z _=>jW (.str z) x
 |_=>false
def Ct{x y:V}{u:Value}(r:RelV y u)(f:hJ y=true):iX x u=jW y x:=by
 cases y with
 |non=>cases r;rfl
 |bl b=>cases r;rfl
 |int i=>let⟨t,rfl⟩:=r;rfl
 |str z=>let⟨t,rfl⟩:=r;rfl
 |_=>exact absurd (show false=true from f) aL
theorem vM{x:V}:∀{xs:List V}{us:Uy},Vals xs us→xs.all hJ=true→us.any (iX x)=xs.any λy=>jW y x
 |_,_,.nil,_=>rfl
 |y::xs,u::us,.cons r t,f=>by
  rw[mR,k8]at f;rw[oM,oM,Ct r f.1,vM t f.2]
theorem vD{A:Around}{s:Shared}{x:V}{v:Value}(rx:RelV x v)(fx:hJ x=true):∀{xs:List V}{us:Uy},Vals xs us→xs.all hJ=true→∀u∈us,SeqAt.EqAt A s u v (iX x u)
 |_,_,.nil,_=>λu hu=>by cases hu
 |y::xs,u::us,.cons r t,f=>λu' hu=>by
  rw[mR,k8]at f;rcases cS.mp hu with rfl|hu
  ·rw[Ct r f.1];exact MA r rx f.1 fx
  ·exact vD rx fx t f.2 u' hu
def pw(x:V)(xs:List V):Bool:=xs.any λy=>jW y x
def yx(K:Uw)(neg:Bool):R2:=λx y H Q=>∃p xs,y=.ref p∧(bf K H p xs∨aQ K H p xs)∧hJ x=true∧xs.all hJ=true∧Q (.bl (if neg then !pw x xs else pw x xs)) H
def HM:a8 X (compareOp .In) (yx X.K false):=by
 intro pins s σ H x y v u Q I rx ry h;let⟨p,xs,rfl,hq,fx,fs,q⟩:=h;cases ry;rcases hq with hq|hq
 ·let⟨its,r,pl,hz⟩:=I.list hq;refine SeqAt.in_listAt (iX x) pl.isList (λw hw=>vD rx fx r fs w (by simpa using hw)) ⟨.bl _,H,I,rfl,?_⟩;rw[show its.toArray.any (iX x)=its.any (iX x) by simp,vM r fs];exact q
 ·let⟨its,r,pl,hz⟩:=I.tuple hq;refine SeqAt.in_tupleAt (iX x) pl (λw hw=>vD rx fx r fs w (by simpa using hw)) ⟨.bl _,H,I,rfl,?_⟩;rw[show its.toArray.any (iX x)=its.any (iX x) by simp,vM r fs];exact q
def G4:f6 X (.type "list") (λxs H Q=>∃p ys,xs=[.ref p]∧(bf X.K H p ys∨aQ X.K H p ys)∧∀l,H l=none→Q (.ref l) (upd H l (.lst ys))):=by
 intro pins s σ H xs us Q I r h;let⟨p,ys,rfl,hq,q⟩:=h;let⟨u,rfl,rx⟩:=vals1 r;cases rx;let fin:∀(its:Uy),Vals ys its→ys.length≤sizeLine→∀(h':Heap) (c':Nat),(∀b o',s.heap.get? b=some o'→h'.get? b=some o') →
   h'.get? s.heap.objs.size=some { cls:=.type "list",dict:=none,data:=.seq its.toArray c',slots:=#[] }→EP X pins σ Q (.ref s.heap.objs.size) { s with heap:=h' }:=λits r' hz h' c' kp e =>
  ⟨.ref s.heap.objs.size,_,I.laid (t':=s.toks) kp (aK _) (show bS X.prog X.w _ h' _ (.lst ys) from⟨hz,its,c',r',e⟩),rfl,q _ (I.aA.fresh (aK _))⟩
 rcases hq with hq|hq
 ·let⟨its,r',pl,hz⟩:=I.list hq;let hlen:=r'.length;let⟨o,ho,hc,n,hd⟩:=pl.isList;exact call_list_seq p (.inl rfl) ho hc hd (λh' c' kp e=>fin its r' hz h' c' kp e) (by simp only[List.size_toArray]<;>omega)
 ·let⟨its,r',pl,hz⟩:=I.tuple hq;let hlen:=r'.length;let⟨o,ho,hc,n,hd⟩:=pl;exact call_list_seq p (.inr rfl) ho hc hd (λh' c' kp e=>fin its r' hz h' c' kp e) (by simp only[List.size_toArray]<;>omega)
def G0:f6 X (.type "tuple") (λxs H Q=>∃p ys,xs=[.ref p]∧((bf X.K H p ys∧∀l,H l=none→Q (.ref l) (upd H l (.tup ys)))∨(aQ X.K H p ys∧Q (.ref p) H))):=by
 intro pins s σ H xs us Q I r h;let⟨p,ys,rfl,h⟩:=h;let⟨u,rfl,rx⟩:=vals1 r;cases rx;rcases h with⟨hq,q⟩|⟨hq,q⟩
 ·let⟨its,r',pl,hz⟩:=I.list hq;let hlen:=r'.length;refine call_tuple_list pl.isList (λh' kp=>?_) (by simp only[List.size_toArray]<;>omega);let I1:Inv X pins σ H { s with heap:=h' }:=I.kept (t':=s.toks) kp;let I2:Inv X pins σ (upd H h'.objs.size (.tup ys)) { s with heap:=h'.push { cls:=.type "tuple",data:=.seq its.toArray } } :=
   I1.laid (t':=s.toks) (λb o e=>cJ _ e) (aK _) (show bS X.prog X.w _ _ _ (.tup ys) from⟨hz,its,r',kM.new _ _⟩)
  exact⟨.ref h'.objs.size,_,I2,rfl,q _ (I1.aA.fresh (aK _))⟩
 ·let⟨its,r',pl,hz⟩:=I.tuple hq;exact call_tuple_same pl ⟨.ref p,H,I,rfl,q⟩
def yy(K:Uw)(T:String)(x:V)(H:Hp):Prop:=match x with
 |.str _=>T = "str"
 |.int _=>T = "int"
 |.ref p=>(T = "list" ∧ ∃xs,bf K H p xs)∨(T = "tuple" ∧ ∃o,K.lookup p=some o∧o.cls=.type "tuple" ∧ o.dict=none) ∨
  (T = "dict" ∧ ((∃ae,H p=some (.dK ae))∨∃ae,H p=some (.dT ae)))∨(T = "set" ∧ ∃S n,H p=some (.set S n))
 |_=>False
def Cu{pins:Ux}{σ:St}{H:Hp}{s:Shared}{T:String}{x:V}{v:Value}(I:Inv X pins σ H s)(r:RelV x v)(ty:yy X.K T x H) :
  s.TypeIs v T∧∀a,v=.ref a→∃ob,s.heap.get? a=some ob∧ob.dict=none:=by
 cases x with
 |str z =>
  let⟨t,rfl⟩:=r;cases (show T = "str" from ty);exact⟨typeIs_str s z t,λ_ e=>nomatch e⟩
 |int i =>
  let⟨t,rfl⟩:=r;cases (show T = "int" from ty);exact⟨typeIs_int s i t,λ_ e=>nomatch e⟩
 |ref p =>
  cases r;rcases ty with⟨rfl,xs,hq⟩|⟨rfl,o,hk,hc,hd⟩|⟨rfl,hk⟩|⟨rfl,S,n,hk⟩
  ·let⟨its,_,pl,_⟩:=I.list hq;refine⟨pl.isList.typeIs,λa e=>?_⟩;cases e;let⟨o,n,e,c,hd,_⟩:=pl;exact⟨o,e,hd⟩
  ·refine⟨⟨o,I.eR p o hk,hc⟩,λa e=>?_⟩;cases e;exact⟨o,I.eR _ o hk,hd⟩
  ·let z:∃o,s.heap.get? p=some o∧o.ExactDict:=by
    rcases hk with⟨ae,hk⟩|⟨ae,hk⟩
    ·let⟨_,_,_,_,o,_,_,e,ex,_⟩:=I.aA p _ hk;exact⟨o,e,ex⟩
    ·let⟨_,_,_,_,o,_,_,e,ex,_⟩:=I.aA p _ hk;exact⟨o,e,ex⟩
   let⟨o,e,ex⟩:=z;refine⟨⟨o,e,ex.1⟩,λa e2=>?_⟩;cases e2;exact⟨o,e,ex.2.1⟩
  ·let⟨o,_,_,_,e,ex,_⟩:=I.aA p _ hk;refine⟨⟨o,e,ex.1⟩,λa e2=>?_⟩;cases e2;exact⟨o,e,ex.2.1⟩
 |_=>exact False.elim ty
abbrev sN(K:Uw)(T:String)(r:V→List V→Hp→VK→Prop)(to:TE):TE:=λσ H Q=>to σ H λx H1=>yy K T x H1∧r x [] H1 Q
abbrev jX(K:Uw)(T:String)(r:V→List V→Hp→VK→Prop)(to:TE)(t:TA):TE:=λσ H Q=>to σ H λx H1=>yy K T x H1∧t σ H1 λxs H2=>r x xs H2 Q
variable {o e:Expr}{es:U2}{to:TE}{t:TA}{name:Str}{apos bN:Pos}{T id:String}{r:V→List V→Hp→VK→Prop}
def MB (pa:PlainAttrs T) (slot:Slot T name id) (iz:typeOf (.builtin id)=pure (.type "method_descriptor")) (hm:uC X id r) (ho:PE X o to)
  (wH:attributeBase o name X.env (eval o X.env)=eval o X.env:=by rfl) (hline:(apos.endLine==bN.line)=true:=by rfl):PE X (.Call (.Attribute o name apos) [] [] bN) (sN X.K T r to):=by
 intro pins s σ H Q I h;refine wpAny_Call_method0_late wH hline (ay (ho pins s σ H _ I h) λv s1 ⟨x,H1,I1,r1,ty,q1⟩=>?_);let⟨h1,h2⟩:=Cu I1 r1 ty;exact⟨T,id,pa,slot,iz,h1,h2,t4 rfl (PySem.evalArgs_none (hm pins s1 σ H1 x [] v [] Q I1 r1 .nil q1))⟩
def wI (pa:PlainAttrs T) (slot:Slot T name id) (iz:typeOf (.builtin id)=pure (.type "method_descriptor")) (hm:uC X id r) (ho:PE X o to) (ha:PA X (e::es) t)
  (wH:attributeBase o name X.env (eval o X.env)=eval o X.env:=by rfl)
  (Qb:((backTo bN (starEach (e::es) X.env)).all (λx=>!x.1)&&(backToKw bN (keywordEach [] X.env)).all (λx=>x.1.isSome)
   && decide ((e::es).length+([]:List Keyword).length+(if ([]:List Keyword).isEmpty then 0 else 1)<30))=true:=by rfl)
  (hline:(apos.endLine==bN.line)=true:=by rfl) (hs:starEach (e::es) X.env=(false,eval e X.env)::starEach es X.env:=by rfl) (MC:(backTo bN (starEach es X.env)).any (·.1)=false:=by rfl) :
  PE X (.Call (.Attribute o name apos) (e::es) [] bN) (jX X.K T r to t):=by
 intro pins s σ H Q I h;refine wpAny_Call_method_late wH Qb hline rfl (ay (ho pins s σ H _ I h) λv s1 ⟨x,H1,I1,r1,ty,q1⟩=>?_);let⟨h1,h2⟩:=Cu I1 r1 ty;refine⟨T,id,pa,slot,iz,h1,h2,?_⟩;let hA:=ha bN pins s1 σ H1 _ I1 q1;rw[hs]at hA ⊢;refine t4 (by show(false||(backTo bN (starEach es X.env)).any (·.1))=false;rw[MC]<;>rfl) (Calls.evalArgs_plain ?_);exact ay hA λus s2 ⟨vs,H2,I2,r2,q2⟩=>hm pins s2 σ H2 x vs v us Q I2 r1 r2 q2
end
def uD(X:Cx)(id:String)(r:V→List V→Hp→VK→Prop):Prop :=
 ∀(pins:Ux) (s:Shared) (σ:St) (H:Hp) (x:V) (xs:List V) (v:Value) (us:Uy) (Q:VK),Inv X pins σ H s→RelV x v→Vals xs us→r x xs H Q →
  wpAny (model X.prog X.w) X.A (call (.builtin id) (v::us)) (EP X pins σ Q) X.xe s
def Vals.zero{us:Uy}(h:Vals [] us):us=[]:=by cases h;rfl
def Vals.one{x:V}{us:Uy}(h:Vals [x] us):∃u,us=[u]∧RelV x u:=by
 cases h with|cons r t=>cases t;exact⟨_,rfl,r⟩
def Vals.two{x y:V}{us:Uy}(h:Vals [x,y] us):∃u v,us=[u,v]∧RelV x u∧RelV y v:=by
 cases h with|cons r t=>let⟨v,rfl,q⟩:=Vals.one t;exact⟨_,_,rfl,r,q⟩
theorem Vals.dropLast{xs:List V}{us:Uy}(h:Vals xs us):Vals xs.dropLast us.dropLast:=by
 induction h with
 |nil=>exact .nil
 |cons r t ih =>
  cases t with
  |nil=>exact .nil
  |cons q t'=>exact .cons r ih
theorem Vals.eraseIdx:∀{xs:List V}{us:Uy} (i:Nat),Vals xs us→Vals (xs.eraseIdx i) (us.eraseIdx i)
 |_,_,_,.nil=>.nil
 |_,_,0,.cons _ t=>t
 |_,_,i+1,.cons r t=>.cons r (Vals.eraseIdx i t)
theorem Vals.reverse{xs:List V}{us:Uy}(h:Vals xs us):Vals xs.reverse us.reverse:=by
 induction h with
 |nil=>exact .nil
 |cons r t ih=>rw[List.reverse_cons,List.reverse_cons];exact Vals.append ih (.cons r .nil)
theorem Vals.rep{xs:List V}{us:Uy}(h:Vals xs us):∀k:Nat,Vals (List.replicate k xs).flatten (List.replicate k us).flatten
 |0=>.nil
 |k+1=>by
  rw[t5,t5,t6,t6];exact Vals.append h (Vals.rep h k)
def Hs{α:Type}(l:List α):l.eraseIdx (l.length-1)=l.dropLast:=by
 induction l with
 |nil=>rfl
 |cons a r ih =>
  cases r with
  |nil=>rfl
  |cons b r =>
   let e:(a::b::r).length-1=((b::r).length-1)+1:=by
    let h1:(a::b::r).length=r.length+2:=rfl;let h2:(b::r).length=r.length+1:=rfl;omega
   rw[e,List.eraseIdx_cons_succ,ih]
   all_goals rfl
section
variable {X:Cx}{pins:Ux}{σ:St}{H:Hp}{s:Shared}{l b:Addr}{xs ys zs:List V}
def Inv.sO{its its':Uy}{n:Nat}{f:Array Value→Array Value}{t':Nat}(I:Inv X pins σ H s)(hH:H l=some (.lst xs))
  (e:s.heap.get? l=some { cls:=.type "list",data:=.seq its.toArray n }) (hf:f its.toArray=its'.toArray) (hv:Vals ys its') (hz:ys.length≤sizeLine) :
  Inv X pins σ (upd H l (.lst ys)) { s with heap:=s.heap.update l (Obj.mapSeq f),toks:=t' }:=by
 let q:=PySem.IsL.update e f;rw[hf]at q;refine I.write (x:=l) (e:=l) (by rw[hH];exact trivial) (.inl rfl) (λb' u hb hu=>(Heap.get?_update_other s.heap (Obj.mapSeq f) (ig hb)).trans hu) ⟨_,q⟩ ?_;exact⟨hz,its',_,hv,q⟩
def Inv.Qc{its:Uy}{t':Nat}(I:Inv X pins σ H s)(hv:Vals ys its)(hz:ys.length≤sizeLine) :
  Inv X pins σ (upd H s.heap.objs.size (.lst ys)) { s with heap:=s.heap.push { cls:=.type "list",data:=.seq its.toArray },toks:=t' } :=
 I.laid (λ_ _ q=>cJ _ q) (aK _) ⟨hz,its,0,hv,eO _ rfl⟩
theorem Inv.fresh(I:Inv X pins σ H s):H s.heap.objs.size=none:=I.aA.fresh (aK _)
def Inv.sQ(I:Inv X pins σ H s)(hH:H l=some (.lst xs)):xs.length≤sizeLine∧∃(its:Uy) (n:Nat),Vals xs its∧xs.length=its.length∧s.heap.get? l=some { cls:=.type "list",data:=.seq its.toArray n }:=by
 let⟨z,its,n,r,e⟩:=I.aA l _ hH;exact⟨z,its,n,r,r.length,e⟩
end
section
variable {X:Cx}
def nJ:V→List V→Hp→VK→Prop:=λx vs H Q=>∃l xs y,x=.ref l∧vs=[y]∧H l=some (.lst xs)∧xs.length<sizeLine∧Q .non (upd H l (.lst (xs++[y])))
def Aw:uD X "list.append" nJ:=by
 intro pins s σ H x vs v us Q I rx rv h;let⟨l,xs,y,rfl,rfl,hH,hz,q⟩:=h;cases rx;let⟨u,rfl,ru⟩:=rv.one;let⟨z,its,n,r,hl,e⟩:=I.sQ hH;refine call_meets F.slot_list_append ⟨_,e,rfl⟩ F.entry_list_append (F.args_list_append_2 _ _) (PySem.list_append l its.toArray n u (by rw[dO];omega)) ⟨e,?_⟩;refine⟨.non,_,I.sO (its':=its++[u]) hH e (by simp) (r.append (.cons ru .nil)) ?_,rfl,q⟩;rw[cK,List.length_singleton];omega
def Et:V→List V→Hp→VK→Prop:=λx vs H Q=>∃l xs y,x=.ref l∧vs=[]∧H l=some (.lst xs)∧xs[xs.length-1]?=some y∧Q y (upd H l (.lst xs.dropLast))
def MD:uD X "list.pop" Et:=by
 intro pins s σ H x vs v us Q I rx rv h;let⟨l,xs,y,rfl,rfl,hH,hy,q⟩:=h;cases rx;let yz:=rv.zero;subst yz;let⟨z,its,n,r,hl,e⟩:=I.sQ hH;let⟨u,hu,ru⟩:=r.get hy;let yA:its.toArray[its.toArray.size-1]?=some u:=by
  show its.toArray[its.length-1]?=some u;rw[←t7,←hl];exact hu
 refine call_meets F.slot_list_pop ⟨_,e,rfl⟩ F.entry_list_pop (F.args_list_pop_1 _) (MeetsSeq.list_pop_last l its.toArray n u yA (by rw[dO];omega)) ⟨e,?_⟩;refine⟨y,_,I.sO (its':=its.dropLast) hH e ?_ r.dropLast ?_,ru,q⟩
 ·show its.toArray.eraseIdxIfInBounds (its.toArray.size-1)=its.dropLast.toArray;rw[dO,List.eraseIdxIfInBounds_toArray,Hs]
 ·rw[List.length_dropLast];omega
def Cv:V→List V→Hp→VK→Prop:=λx vs H Q=>∃l xs,x=.ref l∧vs=[]∧H l=some (.lst xs)∧Q .non (upd H l (.lst []))
def IY:uD X "list.clear" Cv:=by
 intro pins s σ H x vs v us Q I rx rv h;let⟨l,xs,rfl,rfl,hH,q⟩:=h;cases rx;let yz:=rv.zero;subst yz;let⟨z,its,n,r,hl,e⟩:=I.sQ hH;refine call_meets F.slot_list_clear ⟨_,e,rfl⟩ F.entry_list_clear (F.args_list_clear_1 _) (AutoSeq1.list_clear_list_0 l its.toArray n (by rw[dO];omega)) ⟨e,?_⟩;exact⟨.non,_,I.sO (its':=[]) (ys:=[]) hH e rfl .nil (ik _),rfl,q⟩
end
section
variable {prog:Program}{w:World}{A:Around}{E:Uu}{s:Shared}
end
section
variable {X:Cx}
end
section
variable {κ:Type}[DecidableEq κ]
abbrev cx(ae:List (κ×V))(k:κ):Option V:=(ae.find? λkv=>decide (kv.1=k)).map (·.2)
abbrev putK(ae:List (κ×V))(k:κ)(v:V):List (κ×V) :=
 if (ae.any λkv=>decide (kv.1=k))=true then ae.map (λkv=>if kv.1=k then (kv.1,v)else kv)else ae++[(k,v)]
abbrev Tq(ae:List (κ×V))(k:κ):List (κ×V):=ae.filter λkv=>decide (kv.1≠k)
def qN{p:κ×V}{r:List (κ×V)}{k:κ}(e:p.1=k):cx (p::r) k=some p.2:=by simp[cx,List.find?_cons,e]
def qP{p:κ×V}{r:List (κ×V)}{k:κ}(e:¬p.1=k):cx (p::r) k=cx r k:=by simp[cx,List.find?_cons,e]
theorem AV(k:κ):∀ae:List (κ×V),(ae.any λkv=>decide (kv.1=k))=(cx ae k).isSome
 |[]=>rfl
 |p::r=>by
  rw[oM];by_cases e:p.1=k
  ·simp only[qN e,decide_eq_true e,Bool.true_or,Option.isSome_some]
  ·rw[qP e,b5 e,Bool.false_or];exact AV k r
def qk(ae:List (κ×V))(k:κ)(v:V):(putK ae k v).length≤ae.length+1:=by
 unfold putK;split
 ·rw[dC];omega
 ·rw[cK,gq,List.length_nil];omega
def gd.nD{o:Option V}{u:Option Value}(r:gd o u):o.isSome=u.isSome:=by
 cases o with
 |none=>cases u with
  |none=>rfl
  |some _=>exact(show False from r).elim
 |some _=>cases u with
  |none=>exact(show False from r).elim
  |some _=>rfl
theorem gd.getD{o:Option V}{u:Option Value}{d:V}{d':Value}(r:gd o u)(rd:RelV d d'):RelV (o.getD d) (u.getD d'):=by
 cases o with
 |none=>cases u with
  |none=>exact rd
  |some _=>exact(show False from r).elim
 |some _=>cases u with
  |none=>exact(show False from r).elim
  |some _=>exact r
def KV.val{ae:List (κ×V)}{vs:List (κ×Value)}(r:KV ae vs)(k:κ):gd (cx ae k) (valueAt vs k):=by
 unfold KV at r
 induction r with
 |nil=>exact True.intro
 |@cons p q ps qs h t ih =>
  let⟨h1,h2⟩:=h;by_cases e:p.1=k
  ·let e':q.1=k:=h1.symm.trans e;let b:valueAt (q::qs) k=some q.2:=by simp[valueAt,List.find?_cons,e']
   rw[qN e,b];exact h2
  ·let e':¬q.1=k:=λz=>e (h1.trans z);let b:valueAt (q::qs) k=valueAt qs k:=by simp[valueAt,List.find?_cons,e']
   rw[qP e,b];exact ih
theorem KV.any{ae:List (κ×V)}{vs:List (κ×Value)}(r:KV ae vs)(k:κ):(ae.any λkv=>decide (kv.1=k))=vs.any λkv=>decide (kv.1=k):=by
 unfold KV at r
 induction r with
 |nil=>rfl
 |cons h t ih=>rw[oM,oM,ih,h.1]
def KV.repl{ae:List (κ×V)}{vs:List (κ×Value)}(r:KV ae vs)(k:κ){y:V}{u:Value}(ry:RelV y u) :
  KV (ae.map λkv=>if kv.1=k then (kv.1,y)else kv) (vs.map λkv=>if kv.1=k then (kv.1,u)else kv):=by
 unfold KV at r ⊢
 induction r with
 |nil=>exact .nil
 |@cons p q ps qs h t ih =>
  rw[cj,cj];refine .cons ?_ ih;let⟨h1,h2⟩:=h;by_cases e:p.1=k
  ·rw[if_pos e,if_pos (h1.symm.trans e)];exact⟨h1,ry⟩
  ·rw[if_neg e,if_neg (λz=>e (h1.trans z))];exact⟨h1,h2⟩
def KV.put{ae:List (κ×V)}{vs:List (κ×Value)}(r:KV ae vs)(k:κ){y:V}{u:Value}(ry:RelV y u):KV (putK ae k y) (stored vs k u):=by
 unfold putK stored;rw[r.any k];by_cases e:(vs.any λkv=>decide (kv.1=k))=true
 ·rw[if_pos e,if_pos e];exact r.repl k ry
 ·rw[if_neg e,if_neg e];exact Paired.snoc r ⟨rfl,ry⟩
theorem KV.length{ae:List (κ×V)}{vs:List (κ×Value)}(r:KV ae vs):ae.length=vs.length:=cf r
end
def ko{P:Program}{w:World}{k:Key}{u:Value}(r:RelV (kV k) u):(bJ P w).is k u=true:=by
 cases k with
 |inl i=>let⟨t,e⟩:=(show ∃t,u=Value.int i t from r);subst e;exact G9 P w i t
 |inr x=>let⟨t,e⟩:=(show ∃t,u=Value.str x t from r);subst e;exact Hc P w x t
 |non=>rw[show u=Value.none from r];exact Hd P w
theorem Ax{P:Program}{w:World}:∀{ks:List Key}{us:Uy},Vals (ks.map kV) us→ItemsAre (bJ P w) ks us
 |[],_,r=>by rw[x8]at r;cases r;exact .nil
 |k::ks,_,r=>by
  rw[cj]at r;cases r with
  |cons h t=>exact .cons (ko h) (Ax t)
@[reducible]def KT(H:Hp):List (List Key×V)→List (List Key×Addr×Value)→Prop:=Paired λp q=>p.1=q.1∧H q.2.1=some (.tup (p.1.map kV))∧RelV p.2 q.2.2
def KT.val{H:Hp}{ae:List (List Key×V)}{xs:List (List Key×Addr×Value)}(r:KT H ae xs)(k:List Key):gd (cx ae k) ((atKey xs k).map (·.2)):=by
 induction r with
 |nil=>exact True.intro
 |@cons p q ps qs h t ih =>
  let⟨h1,_,h2⟩:=h;by_cases e:p.1=k
  ·let e':q.1=k:=h1.symm.trans e;let b:atKey (q::qs) k=some q.2:=by simp[atKey,List.find?_cons,e']
   rw[qN e,b];exact h2
  ·let e':¬q.1=k:=λz=>e (h1.trans z);let b:atKey (q::qs) k=atKey qs k:=by simp[atKey,List.find?_cons,e']
   rw[qP e,b];exact ih
def KT.repl{H:Hp}{ae:List (List Key×V)}{xs:List (List Key×Addr×Value)}(r:KT H ae xs)(k:List Key){y:V}{u:Value}(ry:RelV y u) :
  KT H (ae.map λkv=>if kv.1=k then (kv.1,y)else kv) (xs.map (putAt k u)):=by
 induction r with
 |nil=>exact .nil
 |@cons p q ps qs h t ih =>
  rw[cj,cj];refine .cons ?_ ih;let⟨h1,h2,h3⟩:=h;unfold putAt;by_cases e:p.1=k
  ·rw[if_pos e,if_pos (h1.symm.trans e)];exact⟨h1,h2,ry⟩
  ·rw[if_neg e,if_neg (λz=>e (h1.trans z))];exact⟨h1,h2,h3⟩
def KT.put{H:Hp}{ae:List (List Key×V)}{xs:List (List Key×Addr×Value)}(r:KT H ae xs)(k:List Key){b:Addr}{y:V}{u:Value}(hb:H b=some (.tup (k.map kV)))(ry:RelV y u) :
  KT H (putK ae k y) (storedH xs k b u):=by
 let e:(ae.any λkv=>decide (kv.1=k))=(atKey xs k).isSome:=by
  rw[AV,(r.val k).nD,t8]
 unfold putK storedH;rw[e];by_cases q:(atKey xs k).isSome=true
 ·rw[if_pos q,if_pos q];exact r.repl k ry
 ·rw[if_neg q,if_neg q];exact Paired.snoc r ⟨rfl,hb,ry⟩
def KT.keeps{H H':Hp}{ae:List (List Key×V)}{xs:List (List Key×Addr×Value)}(r:KT H ae xs)(ht:∀b ys,H b=some (.tup ys)→H' b=some (.tup ys)):KT H' ae xs :=
 Paired.mw r λ_ _ z=>⟨z.1,ht _ _ z.2.1,z.2.2⟩
section
variable {P:Program}{w:World}{H:Hp}{h:Heap}{a:Addr}
def DI{u:HO}(ok:bK P w H h)(e:Rd H a u):bS P w H h a u:=e.ok ok
def kr{ae:List (Key×V)}(ok:bK P w H h)(e:Rd H a (.dK ae)):ae.length≤sizeLine∧(a==sysModules)=false∧∃vs,KV ae vs∧h.DictOf (bJ P w) a vs :=
 show bS P w H h a (.dK ae)from DI ok e
def DJ{ae:List (Key×V)}(ok:bK P w H h)(e:H a=some (.dK ae)):ae.length≤sizeLine∧(a==sysModules)=false∧∃vs,KV ae vs∧h.DictOf (bJ P w) a vs:=kr ok (.inl e)
def lS{ks:List Key}(ok:bK P w H h)(e:H a=some (.tup (ks.map kV))):(tupleKind (bJ P w)).is h ks a:=by
 let⟨_,its,r,o,h1,h2,_,n,h3⟩:=(show bS P w H h a (.tup (ks.map kV))from ok a _ e);exact⟨o,its.toArray,n,h1,h2,h3,by simpa using Ax r⟩
def jF{ae:List (List Key×V)}(ok:bK P w H h)(e:Rd H a (.dT ae)):ae.length≤sizeLine∧(a==sysModules)=false ∧
  ∃xs,KT H ae xs∧h.DictOfH (tupleKind (bJ P w)) a xs:=by
 let⟨z,y,xs,r,o,es,ep,h1,h2,h3,h4,h5⟩:=(show bS P w H h a (.dT ae)from DI ok e);refine⟨z,y,xs,r,o,es,ep,h1,h2,h3,h4,λx hx=>?_,h5⟩;let all:∀{l:List (List Key×V)}{m:List (List Key×Addr×Value)},KT H l m→∀x∈m,(tupleKind (bJ P w)).is h x.1 x.2.1:=by
  intro l m q
  induction q with
  |nil=>intro x hx;exact nomatch hx
  |@cons p q ps qs hq t ih =>
   intro x hx;rcases cS.mp hx with e|hx
   ·subst e;exact lS ok (by rw[←hq.1];exact hq.2.1)
   ·exact ih x hx
 exact all r x hx
def OX{ae:List (List Key×V)}(ok:bK P w H h)(e:H a=some (.dT ae)):ae.length≤sizeLine∧(a==sysModules)=false ∧
 ∃xs,KT H ae xs∧h.DictOfH (tupleKind (bJ P w)) a xs:=jF ok (.inl e)
end
def eE(H:Hp)(a:Addr)(y:V)(r:Option V):Prop :=
 (∃ae k,Rd H a (.dK ae)∧y=kV k∧r=cx ae k)∨∃ae k b,Rd H a (.dT ae)∧y=.ref b∧H b=some (.tup (k.map kV))∧r=cx ae k
def mz(H:Hp)(a:Addr)(y v:V)(H':Hp):Prop :=
 (∃ae k,H a=some (.dK ae)∧y=kV k∧ae.length<sizeLine∧H'=upd H a (.dK (putK ae k v))) ∨
 ∃ae k b,H a=some (.dT ae)∧y=.ref b∧H b=some (.tup (k.map kV))∧ae.length<sizeLine∧H'=upd H a (.dT (putK ae k v))
theorem eE.k{H:Hp}{a:Addr}{ae:List (Key×V)}{k:Key}(e:H a=some (.dK ae)):eE H a (kV k) (cx ae k):=.inl ⟨ae,k,.inl e,rfl,rfl⟩
def eE.t{H:Hp}{a b:Addr}{ae:List (List Key×V)}{k:List Key}(e:H a=some (.dT ae))(eb:H b=some (.tup (k.map kV))):eE H a (.ref b) (cx ae k):=.inr ⟨ae,k,b,.inl e,rfl,eb,rfl⟩
theorem mz.k{H:Hp}{a:Addr}{ae:List (Key×V)}{k:Key}{v:V}(e:H a=some (.dK ae))(hl:ae.length<sizeLine):mz H a (kV k) v (upd H a (.dK (putK ae k v))):=.inl ⟨ae,k,e,rfl,hl,rfl⟩
def mz.t{H:Hp}{a b:Addr}{ae:List (List Key×V)}{k:List Key}{v:V}(e:H a=some (.dT ae))(eb:H b=some (.tup (k.map kV)))(hl:ae.length<sizeLine) :
 mz H a (.ref b) v (upd H a (.dT (putK ae k v))):=.inr ⟨ae,k,b,e,rfl,eb,hl,rfl⟩
section
variable {X:Cx}{pins:Ux}{σ:St}{H:Hp}{s:Shared}{a:Addr}{y v:V}{u r:Value}{o:Option V}{A:Around}{E:Uu}
def Inv.big(I:Inv X pins σ H s):sysModules<s.heap.objs.size:=by
 let h:mainGlobals<s.heap.objs.size:=(I.mod.glob.keeps I.bk).lt;exact Nat.lt_trans (by decide) h
def HN{Q:Uu}(hu:A.units+1<cLine)(I:Inv X pins σ H s)(g:eE H a y (some v))(ry:RelV y u)(h:∀w' s',Inv X pins σ H s'→RelV v w'→Q w' s') :
  wpAny (model X.prog X.w) A (getItem (.ref a) u) Q E s:=by
 rcases g with⟨ae,k,e,ey,l⟩|⟨ae,k,b,e,ey,eb,l⟩
 ·subst ey;let⟨z,hd,vs,rel,dd⟩:=kr I.aA e;let⟨w',hw,fO⟩:=gd.some_of (v:=v) (o:=valueAt vs k) (by rw[l];exact rel.val k);exact wpAny_getItem_of (ko ry) dd.mapOf hw (h w' _ (I.tok _) fO)
 ·subst ey;cases (show u=Value.ref b from ry);let⟨z,hd,xs,rel,dd⟩:=jF I.aA e;let⟨w',hw,fO⟩:=gd.some_of (v:=v) (o:=(atKey xs k).map (·.2)) (by rw[l];exact rel.val k);let⟨p,hp,ly⟩:=EJ.mp hw;refine wpAny_getItem_heap (oN hu) (lS I.aA eb) dd hp ?_;rw[ly];exact h w' _ (I.tok _) fO
def Qe{Q:Uu}(hu:A.units+1<cLine)(I:Inv X pins σ H s)(g:eE H a y o)(ry:RelV y u)(h:∀s',Inv X pins σ H s'→Q (.bool o.isSome) s') :
  wpAny (model X.prog X.w) A (compareOp .In u (.ref a)) Q E s:=by
 rcases g with⟨ae,k,e,ey,l⟩|⟨ae,k,b,e,ey,eb,l⟩
 ·subst ey;let⟨z,hd,vs,rel,dd⟩:=kr I.aA e;refine wpAny_in_of (ko ry) hd dd.mapOf ?_;rw[←(rel.val k).nD,←l];exact h _ (I.tok _)
 ·subst ey;cases (show u=Value.ref b from ry);let⟨z,hd,xs,rel,dd⟩:=jF I.aA e;refine wpAny_in_heap (oN hu) (lS I.aA eb) hd dd ?_;let q:=(rel.val k).nD;rw[t8]at q;rw[←q,←l];exact h _ (I.tok _)
def Kq{Q:Uu}(hu:A.units+1<cLine)(I:Inv X pins σ H s)(g:eE H a y o)(ry:RelV y u)(h:∀s',Inv X pins σ H s'→Q (.bool (!o.isSome)) s') :
  wpAny (model X.prog X.w) A (compareOp .NotIn u (.ref a)) Q E s:=by
 rcases g with⟨ae,k,e,ey,l⟩|⟨ae,k,b,e,ey,eb,l⟩
 ·subst ey;let⟨z,hd,vs,rel,dd⟩:=kr I.aA e;refine wpAny_notIn_of (ko ry) hd dd.mapOf ?_;rw[←(rel.val k).nD,←l];exact h _ (I.tok _)
 ·subst ey;cases (show u=Value.ref b from ry);let⟨z,hd,xs,rel,dd⟩:=jF I.aA e;refine wpAny_notIn_heap (oN hu) (lS I.aA eb) hd dd ?_;let q:=(rel.val k).nD;rw[t8]at q;rw[←q,←l];exact h _ (I.tok _)
def qY{h':Heap}{t':Nat}{ob:HO}(I:Inv X pins σ H s)(mu:oW (H a))(hs:Heap.SameBut a s.heap h')(he:∃q,h'.get? a=some q)(new:bS X.prog X.w (upd H a ob) h' a ob) :
  Inv X pins σ (upd H a ob) { s with heap:=h',toks:=t' } :=
 I.write (x:=a) (e:=a) mu (.inl rfl) (λb q hb z=>(hs.2 b hb).trans z) he new
def wd{P:Program}{w:World}{H':Hp}{h':Heap}{ae:List (Key×V)}{vs:List (Key×Value)}(z:ae.length≤sizeLine)(hd:(a==sysModules)=false)(rel:KV ae vs)(dd:h'.DictOf (bJ P w) a vs) :
 bS P w H' h' a (.dK ae):=⟨z,hd,vs,rel,dd⟩
def HQ{H':Hp}{Q:Unit→Shared→Prop}(hu:A.units+1<cLine)(I:Inv X pins σ H s)(g:mz H a y v H')(ry:RelV y u)(rv:RelV v r)(h:∀s',Inv X pins σ H' s'→Q () s') :
  wpAny (model X.prog X.w) A (setItem (.ref a) u r) Q E s:=by
 rcases g with⟨ae,k,e,ey,l,eH⟩|⟨ae,k,b,e,ey,eb,l,eH⟩
 ·subst ey eH;let⟨z,hd,vs,rel,dd⟩:=DJ I.aA e;let hz:vs.length≤sizeLine:=by rw[←rel.length];exact z
  let hl:(putK ae k v).length≤sizeLine:=by have:=qk ae k v;omega
  refine wpAny_setItem_pairs (hsz:=hz) (ko ry) dd λh' lz hs=>h _ ?_;let he:∃q,h'.get? a=some q:=let ⟨q,_,_,hq,_⟩:=lz;⟨q,hq⟩
  exact qY I (by rw[e];exact True.intro) hs he (wd hl hd (rel.put k rv) lz)
 ·subst ey eH;cases (show u=Value.ref b from ry);let⟨z,hd,xs,rel,dd⟩:=OX I.aA e;let hz:xs.length≤sizeLine:=by rw[←cf rel];exact z
  let hl:(putK ae k v).length≤sizeLine:=by have:=qk ae k v;omega
  refine wpAny_setItem_heap (hsz:=hz) (oN hu) (lS I.aA eb) dd λh' lz hs=>h _ ?_;let⟨q,es,ep,hq,h2,h3,h4,_,h5⟩:=lz;refine qY I (by rw[e];exact True.intro) hs ⟨q,hq⟩ ⟨hl,hd,_,(rel.put k eb rv).keeps λc ys ec=>?_,q,es,ep,hq,h2,h3,h4,h5⟩;rw[aD (rJ ec e (λz=>nomatch z))];exact ec
end
section
variable {X:Cx}{pins:Ux}{σ:St}{H:Hp}{s:Shared}{a:Addr}{ae:List (Key×V)}{k:Key}{u:Value}{A:Around}{E:Uu}
end
def w4(i:Expr):Prop:=∀ov iv,subscripted i false ov iv=operate [ov,iv] (getItem ov iv)
def Kr{prog:Program}{w:World}{A:Around}{E:Uu}{s:Shared}{env:Env}{value slice:Expr}{pos:Pos}{T id:String}{Q:Uu}
  (hl:typeLookup (.type T) "__getitem__" = pure (some (.builtin id))) (hs:w4 slice)
  (h:wpAny (model prog w) A (eval value env) (λo s₁=>wpAny (model prog w) A (eval slice env) (λi s₂=>s₂.TypeIs o T∧wpAny (model prog w) A (getItem o i) Q E s₂) E s₁) E s) :
  wpAny (model prog w) A (eval (.Subscript value slice pos) env) Q E s:=by
 refine Subscript_ (cZ h (λo s₁ h₁=>cZ h₁ (λi s₂ h₂=>?_) λ_ _ x=>x) λ_ _ x=>x);let⟨hT,h₂⟩:=h₂;unfold subscriptTail;refine ax ?_;rw[getitemInPython_of_ne hT.not_modules];refine ax (xP hT hl ?_);let fin:wpAny (model prog w) A (subscripted slice false o i) (λr s₃=>wpAny (model prog w) A (letTemporaryGo value o r >>= λ_=>pure r) Q E s₃) E s₂:=by
  rw[hs o i];exact wpAny_operating (cZ h₂ (λr s₃ h₃=>ax (wpAny_letTemporaryGo (aS h₃))) λ_ _ x=>x)
 first
  |exact aS (ax fin)
  |exact ax (aS (ax fin))
  |exact ax fin
def He{X:Cx}{pins:Ux}{σ:St}{H:Hp}{s:Shared}{a:Addr}{y:V}{o:Option V}(I:Inv X pins σ H s)(g:eE H a y o):s.TypeIs (.ref a) "dict" := by
 rcases g with⟨ae,k,e,_,_⟩|⟨ae,k,b,e,_,_,_⟩
 ·let⟨_,_,vs,_,dd⟩:=kr I.aA e;exact dd.typeIs
 ·let⟨_,_,xs,_,dd⟩:=jF I.aA e;exact dd.typeIs
abbrev DK(td ty:TE):TE:=λσ H Q=>td σ H λx H1=>ty σ H1 λy H2=>∃a v,x=.ref a∧eE H2 a y (some v)∧Q v H2
abbrev w5(ty td:TE):TE:=λσ H Q=>ty σ H λy H1=>td σ H1 λx H2=>∃a o,x=.ref a∧eE H2 a y o∧Q (.bl o.isSome) H2
abbrev vN(ty td:TE):TE:=λσ H Q=>ty σ H λy H1=>td σ H1 λx H2=>∃a o,x=.ref a∧eE H2 a y o∧Q (.bl (!o.isSome)) H2
abbrev n8(td ty tv:TE):TS:=λD σ H=>tv σ H λv H1=>td σ H1 λx H2=>ty σ H2 λy H3=>∃a H4,x=.ref a∧mz H3 a y v H4∧D.nx σ H4
section
variable {X:Cx}{o i e value:Expr}{pos pos' P8:Pos}{td ty tv:TE}
def Ks(hu:X.A.units+1<cLine)(ho:PE X o td)(hi:PE X i ty)(hs:w4 i):PE X (.Subscript o i pos) (DK td ty):=by
 intro pins s σ H Q I h;refine Kr PySem.F.slot_dict_getitem.lookup hs (ay (ho pins s σ H _ I h) λu s1 ⟨x,H1,I1,rx,q1⟩=>ay (hi pins s1 σ H1 _ I1 q1) λiv s2 ⟨y,H2,I2,ry,a,v,ex,g,q2⟩=>?_);subst ex;obtain rfl:u=Value.ref a:=rx;exact⟨He I2 g,HN hu I2 g ry λw' s3 I3 fO=>⟨v,H2,I3,fO,q2⟩⟩
def Cw(hu:X.A.units+1<cLine)(hi:PE X i ty)(ho:PE X o td):PC X .In i o (w5 ty td):=by
 intro pins s σ H Q I h;refine ay (hi pins s σ H _ I h) λiv s1 ⟨y,H1,I1,ry,q1⟩=>ay (ho pins s1 σ H1 _ I1 q1) λu s2 ⟨x,H2,I2,rx,a,ov,ex,g,q2⟩=>?_;subst ex;obtain rfl:u=Value.ref a:=rx;exact Qe hu I2 g ry λs3 I3=>⟨.bl ov.isSome,H2,I3,rfl,q2⟩
def Ay(hu:X.A.units+1<cLine)(hi:PE X i ty)(ho:PE X o td):PC X .NotIn i o (vN ty td):=by
 intro pins s σ H Q I h;refine ay (hi pins s σ H _ I h) λiv s1 ⟨y,H1,I1,ry,q1⟩=>ay (ho pins s1 σ H1 _ I1 q1) λu s2 ⟨x,H2,I2,rx,a,ov,ex,g,q2⟩=>?_;subst ex;obtain rfl:u=Value.ref a:=rx;exact Kq hu I2 g ry λs3 I3=>⟨.bl (!ov.isSome),H2,I3,rfl,q2⟩
def Kt(hu:X.A.units+1<cLine)(ho:PE X o td)(hi:PE X i ty)(hv:PE X value tv)(hs:swapsWith value (some (.Subscript o i pos')) pos.line X.env=pure false) :
  PS X (.Assign [.Subscript o i pos'] value pos) (n8 td ty tv):=by
 intro pins s σ H D I h;refine wpAny_Assign_Subscript (ay (hv pins s σ H _ I h) λr s1 ⟨v,H1,I1,rv,q1⟩=>ay (ho pins s1 σ H1 _ I1 q1) λu s2 ⟨x,H2,I2,rx,q2⟩=>ay (hi pins s2 σ H2 _ I2 q2) λiv s3 ⟨y,H3,I3,ry,a,H4,ex,g,q3⟩=>?_) hs;subst ex;obtain rfl:u=Value.ref a:=rx;exact HQ hu I3 g ry rv λs4 I4=>⟨σ,H4,I4,q3⟩
end
def AW{P:Program}{w:World}{H:Hp}(h:Heap)(hb:sysModules<h.objs.size):bS P w H (h.push { cls:=.type "dict",data:=.dict #[] }) h.objs.size (.dK []) :=
 ⟨ik _,beq_eq_false_iff_ne.mpr (ig (cR hb)),[],.nil,Heap.DictOf.new h⟩
def IZ{P:Program}{w:World}{H:Hp}(h:Heap)(hb:sysModules<h.objs.size):bS P w H (h.push { cls:=.type "dict",data:=.dict #[] }) h.objs.size (.dT []) :=
 ⟨ik _,beq_eq_false_iff_ne.mpr (ig (cR hb)),[],.nil,_,#[],0,eO _ rfl,⟨rfl,rfl,rfl⟩,rfl,rfl,List.nodup_nil⟩
def Cy:TE:=λ_ H Q=>∀p,H p=none→Q (.ref p) (upd H p (.dK []))
def Cz:TE:=λ_ H Q=>∀p,H p=none→Q (.ref p) (upd H p (.dT []))
section
variable {X:Cx}{pos:Pos}
def Ja:PE X (.Dict [] [] pos) Cy:=λpins s σ H Q I h =>
 wpAny_Dict_empty ⟨.ref s.heap.objs.size,_,I.laid (a:=s.heap.objs.size) (o:=.dK []) (t':=s.toks) (λ_ _ q=>cJ _ q) (aK _) (AW s.heap I.big),rfl,h _ (I.aA.fresh (aK _))⟩
def Jb:PE X (.Dict [] [] pos) Cz:=λpins s σ H Q I h =>
 wpAny_Dict_empty ⟨.ref s.heap.objs.size,_,I.laid (a:=s.heap.objs.size) (o:=.dT []) (t':=s.toks) (λ_ _ q=>cJ _ q) (aK _) (IZ s.heap I.big),rfl,h _ (I.aA.fresh (aK _))⟩
end
abbrev wg:List (TE×TE)→St→Hp→(List (V×V)→Hp→Prop)→Prop
 |[],_,H,Q=>Q [] H
 | (tk,tv)::r,σ,H,Q=>tk σ H λx H1=>tv σ H1 λy H2=>wg r σ H2 λps H3=>Q ((x,y)::ps) H3
@[reducible]def VV:List (V×V)→List (Value×Value)→Prop:=Paired λp q=>RelV p.1 q.1∧RelV p.2 q.2
def pA(X:Cx)(pos:Pos)(keys:List (Option Expr))(values:U2)(iY:List (TE×TE)):Prop :=
 ∀(pins:Ux) (s:Shared) (σ:St) (H:Hp) (Q:List (V×V)→Hp→Prop),Inv X pins σ H s→wg iY σ H Q →
  wpAny (model X.prog X.w) X.A (evalPairs (pairTrees keys values X.env pos)) (λvs s'=>∃ps H',Inv X pins σ H' s'∧VV ps vs∧Q ps H') X.xe s
def Bv{X:Cx}{pos:Pos}:pA X pos [] [] []:=λpins s σ H Q I h=>pairTrees_nil_walk ⟨[],H,I,.nil,h⟩
def AX{X:Cx}{pos:Pos}{k v:Expr}{ks:List (Option Expr)}{vs:U2}{tk tv:TE}{iY:List (TE×TE)}(hk:PE X k tk)(hv:PE X v tv)(hr:pA X pos ks vs iY) :
  pA X pos (some k::ks) (v::vs) ((tk,tv)::iY):=λpins s σ H Q I h =>
 pairTrees_cons_walk (ay (hk pins s σ H _ I h) λu s1 ⟨x,H1,I1,rx,q1⟩=>ay (hv pins s1 σ H1 _ I1 q1) λw2 s2 ⟨y,H2,I2,ry,q2⟩ =>
  ay (hr pins s2 σ H2 _ I2 q2) λws s3 ⟨ps,H3,I3,rel,q3⟩=>⟨(x,y)::ps,H3,I3,.cons ⟨rx,ry⟩ rel,q3⟩)
def gD(ae more:List (Key×V)):List (Key×V):=more.foldl (λacc kv=>putK acc kv.1 kv.2) ae
def KV.merge:∀{more:List (Key×V)}{rs:List (Key×Value)}{ae:List (Key×V)}{vs:List (Key×Value)},KV more rs→KV ae vs→KV (gD ae more) (merged vs rs):=by
 intro more rs ae vs r;unfold KV at r
 induction r generalizing ae vs with
 |nil=>intro q;exact q
 |@cons p q ps qs h t ih =>
  intro r0;let e:KV (putK ae p.1 p.2) (stored vs q.1 q.2):=by
   have:=r0.put p.1 h.2;rw[←h.1];exact this
  exact ih e
theorem vn:∀(more ae:List (Key×V)),(gD ae more).length≤ae.length+more.length
 |[],ae=>by show ae.length≤ae.length+0;omega
 |p::r,ae=>by
  let h1:=vn r (putK ae p.1 p.2);let h2:=qk ae p.1 p.2;show(gD (putK ae p.1 p.2) r).length≤_;rw[gq];omega
theorem z8{P:Program}{w:World}:∀{ae:List (Key×V)}{ws:List (Value×Value)},VV (ae.map λkv=>(kV kv.1,kv.2)) ws→∃rs,Carries (bJ P w) ws rs∧KV ae rs
 |[],_,r=>by rw[x8]at r;cases r;exact⟨[],True.intro,.nil⟩
 |p::ae,_,r=>by
  rw[cj]at r;cases r with
  |@cons a b as bs h t =>
   let⟨rs,c,q⟩:=z8 (P:=P) (w:=w) t;let⟨b1,b2⟩:=b;exact⟨(p.1,b2)::rs,⟨ko h.1,rfl,c⟩,.cons ⟨rfl,h.2⟩ q⟩
def DL(iY:List (TE×TE)):TE:=λσ H Q=>∀p,H p=none→wg iY σ (upd H p (.dK [])) λps H2=>H2 p=some (.dK [])∧∃ae:List (Key×V),ps=ae.map (λkv=>(kV kv.1,kv.2))∧ae.length≤15∧Q (.ref p) (upd H2 p (.dK (gD [] ae)))
def Ku{X:Cx}{pos:Pos}{keys:List (Option Expr)}{values:U2}{iY:List (TE×TE)}(h:pA X pos keys values iY)(w6:keys.all (·.isSome)=true)(hl:keys.length=values.length)(h0:keys≠[])
  (QQ:keys.length≤15):PE X (.Dict keys values pos) (DL iY):=by
 intro pins s σ H Q I q;let hn:=I.aA.fresh (aK s.heap.objs.size);let I1:=I.laid (a:=s.heap.objs.size) (o:=.dK []) (h':=s.heap.push { cls:=.type "dict",data:=.dict #[] }) (t':=s.toks) (λ_ _ q=>cJ _ q) (aK _) (AW s.heap I.big);refine wpAny_Dict_walk (knd:=bJ X.prog X.w) w6 hl h0 QQ (ay (h pins _ σ _ _ I1 (q _ hn)) λws s2 ⟨ps,H2,I2,rel,e,ae,ep,lk,q2⟩=>?_);subst ep;let⟨rs,c,rk⟩:=z8 (P:=X.prog) (w:=X.w) rel;let⟨z,hd,TJ,r0,dd⟩:=DJ I2.aA e;cases r0;refine⟨rs,c,dd,λh' lz hs=>⟨.ref s.heap.objs.size,_,?_,rfl,q2⟩⟩;let hz:(gD [] ae).length≤sizeLine:=by
  let h1:=vn ae [];rw[List.length_nil]at h1;rw[tW];omega
 let he:∃q,h'.get? s.heap.objs.size=some q:=let ⟨q,_,_,hq,_⟩:=lz;⟨q,hq⟩
 exact qY I2 (by rw[e];exact True.intro) hs he (wd hz hd (rk.merge .nil) lz)
structure M1 (X:Cx)(o:Expr)(m:Str)(apos:Pos)(e:Expr)(bN:Pos):Prop where
 base:attributeBase o m X.env (eval o X.env)=eval o X.env
 few:((backTo bN (starEach [e] X.env)).all (λx=>!x.1)&&(backToKw bN (keywordEach [] X.env)).all (λx=>x.1.isSome)
  && decide (([e]:U2).length+([]:List Keyword).length+(if ([]:List Keyword).isEmpty then 0 else 1)<30))=true
 line:(apos.endLine==bN.line)=true
 trees:backTo bN (starEach [e] X.env)=[(false,eval e X.env)]
structure M2 (X:Cx)(o:Expr)(m:Str)(apos:Pos)(e f:Expr)(bN:Pos):Prop where
 base:attributeBase o m X.env (eval o X.env)=eval o X.env
 few:((backTo bN (starEach [e,f] X.env)).all (λx=>!x.1)&&(backToKw bN (keywordEach [] X.env)).all (λx=>x.1.isSome)
  && decide (([e,f]:U2).length+([]:List Keyword).length+(if ([]:List Keyword).isEmpty then 0 else 1)<30))=true
 line:(apos.endLine==bN.line)=true
 trees:backTo bN (starEach [e,f] X.env)=[(false,eval e X.env),(false,eval f X.env)]
def uE(H:Hp)(a:Addr):Prop:=(∃ae,Rd H a (.dK ae))∨∃ae,Rd H a (.dT ae)
def CB{X:Cx}{pins:Ux}{σ:St}{H:Hp}{s:Shared}{a:Addr}(I:Inv X pins σ H s)(d:uE H a) :
  s.TypeIs (.ref a) "dict" ∧ (∀b,Value.ref a=.ref b→∃ob,s.heap.get? b=some ob∧ob.dict=none)∧(a==sysModules)=false:=by
 rcases d with⟨ae,e⟩|⟨ae,e⟩
 ·let⟨_,hd,vs,_,dd⟩:=kr I.aA e;refine⟨dd.typeIs,λb q=>?_,hd⟩;cases q;let⟨ob,_,_,h1,h2,_⟩:=dd;exact⟨ob,h1,h2.2.1⟩
 ·let⟨_,hd,xs,_,dd⟩:=jF I.aA e;refine⟨dd.typeIs,λb q=>?_,hd⟩;cases q;let⟨ob,_,_,h1,h2,_⟩:=dd;exact⟨ob,h1,h2.2.1⟩
section
variable {X:Cx}{pins:Ux}{σ:St}{H:Hp}{s:Shared}{a:Addr}{y d:V}{u r:Value}{o:Option V}{A:Around}{E:Uu}
def CD{Q:Uu}(hu:A.units+1<cLine)(I:Inv X pins σ H s)(g:eE H a y o)(ry:RelV y u)(rd:RelV d r)(h:∀w' s',Inv X pins σ H s'→RelV (o.getD d) w'→Q w' s') :
  wpAny (model X.prog X.w) A (call (.builtin "dict.get") [.ref a,u,r]) Q E s:=by
 rcases g with⟨ae,k,e,ey,l⟩|⟨ae,k,b,e,ey,eb,l⟩
 ·subst ey;let⟨z,hd,vs,rel,dd⟩:=kr I.aA e;refine t9 oO dd.typeIs x9 (ya _ _ _) (meets_dict_get_default (bJ X.prog X.w) a (ko ry) hd r) ⟨_,dd.mapOf,h _ _ (I.tok _) ?_⟩;rw[l];exact(rel.val k).getD rd
 ·subst ey;cases (show u=Value.ref b from ry);let⟨z,hd,xs,rel,dd⟩:=jF I.aA e;refine t9 oO dd.typeIs x9 (ya _ _ _) (meetsH_dict_get_default (tupleKind (bJ X.prog X.w)) a b hd r) ⟨oN hu,k,xs,lS I.aA eb,dd,h _ _ (I.tok _) ?_⟩;rw[l];exact(rel.val k).getD rd
end
abbrev CF(td ty tx:TE):TE:=λσ H Q=>td σ H λx H1=>∃a,x=.ref a∧uE H1 a∧ty σ H1 λy H2=>tx σ H2 λz H3=>∃o,eE H3 a y o∧Q (o.getD z) H3
section
variable {X:Cx}{o e f:Expr}{apos bN:Pos}{td ty tx:TE}
def Jc (hu:X.A.units+1<cLine) (ho:PE X o td) (he:PE X e ty) (hf:PE X f tx) (m:M2 X o "get" apos e f bN):PE X (.Call (.Attribute o "get" apos) [e,f] [] bN) (CF td ty tx):=by
 intro pins s σ H Q I h;refine wpAny_Call_method m.base m.few m.line yb oO PySem.F.type_dict_get (ay (ho pins s σ H _ I h) λu s1 ⟨x,H1,I1,rx,a,ex,d,q1⟩=>?_);subst ex;obtain rfl:u=Value.ref a:=rx;let⟨t1,t2,_⟩:=CB I1 d;refine⟨t1,t2,?_⟩;rw[m.trees];refine t4 rfl (Calls.evalArgs_plain (oJ (ay (he pins s1 σ H1 _ I1 q1) λiv s2 ⟨y,H2,I2,ry,q2⟩ =>
  oJ (ay (hf pins s2 σ H2 _ I2 q2) λfv s3 ⟨z,H3,I3,rz,ov,g,q3⟩=>Calls.spliced_nil ?_))))
 exact CD hu I3 g ry rz λw' s4 I4 fO=>⟨_,H3,I4,fO,q3⟩
end
section
variable {X:Cx}{pins:Ux}{σ:St}{H:Hp}{s:Shared}{a:Addr}{ae:List (Key×V)}{A:Around}{E:Uu}
end
section
variable {X:Cx}{pins:Ux}{σ:St}{H:Hp}{s:Shared}{a:Addr}{y:V}{u:Value}{A:Around}{E:Uu}
end
end L2
namespace E8
open PySem PySem.W PySem.Calls PyProof.Rows
def GZ{P:Params}{h:Heap}:∀(ns:List Int) (vs:Uy),WellAll P h vs (ns.map WData.int)→IntsAre vs ns:=by
 intro ns
 induction ns with
 |nil =>
  intro vs w;rw[x8]at w;cases w;exact .nil
 |cons n ns ih =>
  intro vs w;rw[cj]at w;cases w with
  |cons a b =>
   cases a;exact .cons _ _ (ih _ b)
def HR{l:OpenLaw}{n:Nat}(hn:l.most=some n){P:Params}{h:Heap}{args:List WData}{vals:Uy}
  (sR:l.row.toRowW.claim.pre args=true) (yB:WellAll P h vals args) :
  ∃a vs ns,vals=[Value.ref a]∧args=[WData.list (ns.map WData.int)]∧h.get? a=some { cls:=.type "list",data:=.seq vs.toArray }∧IntsAre vs ns∧ns.length≤n:=by
 let QR:WShape.hasAll [] args [.list .int]=true:=(pre_splitW sR).1;let hc:l.pre.holds [] { args:=args }=true:=(pre_splitW sR).2;let⟨d,r,rfl,h1,h2⟩:=hasAllW_cons QR;obtain rfl:=hasAllW_nil h2;let⟨xs,rfl,h3⟩:=hasW_list h1;let⟨ns,rfl⟩:=items_int h3;let hlen:ns.length≤n:=by
  unfold OpenLaw.pre at hc;let h4:(WTm.not (.lt (.lit (.int (n:Int))) (.len (.arg 0)))).holds [] { args:=[.list (ns.map .int)] }=true:=by
   let h4:=(holds_andW hc).1;rw[hn]at h4;exact h4
  let h5:=condW_of h4 (w_not (w_lt w_lit (w_len_list (w_arg rfl))));rw[dC]at h5;refine Nat.le_of_not_lt λq=>?_;let q':(n:Int)<((ns.length:Nat):Int):=by omega
  first
   | (rw[bz q']at h5;exact absurd h5 (by decide))
   | (simp at h5;omega)
 cases yB with
 |cons w1 w2 =>
  cases w2;cases w1 with
  |list ho w6=>exact⟨_,_,ns,rfl,rfl,ho,GZ ns _ w6,hlen⟩
def HS(l:OpenLaw)(args:List WData):l.row.toRowW.claim.post args (.bool true) args=true :=
 postW_of (r:=l.row.toRowW) (X:=(true==true))
  (show WShape.has [] (.bool true) .bool=true by first|rfl|decide|simp[WShape.has,WShape.arms,WShape.armsAll])
  (show(WTm.eq .res (.lit (.bool true))).value [] { args:=args,res:=some (.bool true),after:=args }=some (.bool (true==true))from w_eq_bool (w_res rfl) w_lit) rfl
def Hf{l:OpenLaw}{n:Nat}{q:Program}{loose:U3}{XP:(Str→Option Value)→Heap→Prop}{YP:World→Heap→Prop}{d:DefRec}
  (hn:l.most=some n) (pB:d.params.defaults=[])
  (call:∀(w:World) (s₀ s₁:Shared) (mg mb:Str→Option Value) (fa:Addr) (o:Obj) (pm cd doc:Value) (a:Addr) (vs:Uy) (ns:List Int),
   Ground q loose [] XP w s₀ mg mb s₁.heap→YP w s₁.heap →
   s₁.heap.get? fa=some o→o.data=.func (docDef d.name d.params d.body d.scope pm cd doc)→s₁.heap.CodeRec cd d.name→mg d.name=some (.ref fa) →
   s₁.heap.get? a=some { cls:=.type "list",data:=.seq vs.toArray }→IntsAre vs ns→ns.length≤n→s₁.gens=#[] →
   codeAny (model l.prog w) callerA (.call (.ref fa) ⟨[.ref a],[]⟩) (λr s'=>r=.ok (.ret (.bool true))∧OldK s₁.heap s'.heap∧s'.os=s₁.os∧AllBare s'.gens) s₁) :
  WalkO q loose XP YP l.row.toRowW d [] (λf vs=>PySem.call f vs):=by
 intro w s₀ s₁ mg mb G Y fa o pm cd doc dV kV ho hd fK hD yC hg args vals as sR hlay TK yB TL;obtain rfl:dV=.none:=Dflts.none hD pB;obtain rfl:kV=.none:=Dflts.noKw hD;let⟨a,vs,ns,rfl,rfl,w9,hints,hlen⟩:=HR hn sR yB;refine enter_call (codeAny_mono (call w s₀ s₁ mg mb fa o pm cd doc a vs ns G Y ho (fd_plain hd) fK yC w9 hints hlen hg) λr s' hq=>?_);let⟨rfl,h2,h3,h4⟩:=hq;exact⟨.inl ⟨.bool true,.bool true,[],rfl,λ_=>rfl,.bool true,HS l _,λ_=>⟨List.Pairwise.nil,λ_ hm=>(nomatch hm)⟩⟩,h2,h3,h4⟩
section
variable {prog:Program}{w:World}{A:Around}{E:Uu}{s:Shared}{K:Frag}
end
end E8
namespace L2
open PySem PySem.Spec PyProof.Rows
theorem qF:∀{vs:Uy}{ns:List Int},IntsAre vs ns→Vals (ns.map V.int) vs
 |_,_,.nil=>.nil
 |_,_,.cons n t h=>.cons ⟨t,rfl⟩ (qF h)
def Only(H:Hp):Prop:=∀b,H b=none∨∃o xs,H b=some (.ck o (.lst xs))
def Jd{P:Program}{w:World}{K:Uw}{mg mb:Str→Option Value}{CX:gX}{k:Nat}{fa a:Addr}{fd:FuncData}{x:Str}{sp:Sp}{s₁:Shared}{vs:Uy}{ns:List Int}
  (KX:K.In s₁.heap) (jY:s₁.heap.Ns mainGlobals mg) (hb:s₁.heap.Ns builtinsNs mb) (QS:∀x:Str,x ≠ "__name__" → mb x=bootBuiltins x) (Qf:s₁.heap.NoLimit) (hg:s₁.gens=#[])
  (ha:s₁.heap.get? a=some { cls:=.type "list",data:=.seq vs.toArray }) (hi:IntsAre vs ns) (hl:ns.length≤sizeLine) (hr:cw k callerA)
  (F:∀base:Heap,K.In base→base.Ns mainGlobals mg→iN P w K mg base CX k fa fd [x] sp) (OY:∀(s:Shared) (u:Value),BindsTo s fd ⟨[u],[]⟩ [(x,u)])
  (iu:∀H:Hp,Only H→bf K H a (ns.map V.int)→sp [.ref a] H (λv _=>v=.bl true) λ_ _ _=>False)
  (yD:∀H e s',CX [] H s₁ (λ_ _ _=>False) e s'→False) :
  codeAny (model P w) callerA (.call (.ref fa) ⟨[.ref a],[]⟩) (λr s'=>r=.ok (.ret (.bool true))∧OldK s₁.heap s'.heap∧s'.os=s₁.os∧AllBare s'.gens) s₁:=by
 let rv:=qF hi;let Qg:=hi.length;let core:∀H:Hp,Only H→bf K H a (ns.map V.int)→bK P w H s₁.heap→(∀b,H b≠none→b=a)→(H a≠none→K.lookup a=none) →
   codeAny (model P w) callerA (.call (.ref fa) ⟨[.ref a],[]⟩) (λr s'=>r=.ok (.ret (.bool true))∧OldK s₁.heap s'.heap∧s'.os=s₁.os∧AllBare s'.gens) s₁:=by
  intro H hO hS aA hA hK;let Bw:∀{b:Addr}{o:Obj},s₁.heap.get? b=some o→H b=none→(iM s₁.heap H).get? b=some o:=λe n=>IJ e n;let pv:∀{b:Addr}{o:Obj}{es:Array DictEntry}{ep:Nat},s₁.heap.get? b=some o→o.data=.dict es ep→H b=none:=λ{b o es ep} e d=>by
   cases q:H b with
   |none=>rfl
   |some u =>
    let e':b=a:=hA b (by rw[q];simp);subst e';rw[ha]at e;cases e;let d':Data.seq vs.toArray _=Data.dict es ep:=d;cases d'
  let uF:∀{b:Addr}{m:Str→Option Value},s₁.heap.Ns b m→(iM s₁.heap H).Ns b m:=λ{b m} ⟨o,es,ep,e,d,r⟩=>⟨o,es,ep,Bw e (pv e d),d,r⟩;let E9:K.In (iM s₁.heap H):=λb o e=>Bw (KX b o e) (by
   cases q:H b with
   |none=>rfl
   |some u =>
    let e':b=a:=hA b (by rw[q];simp);subst e';rw[hK (by rw[q];simp)]at e;cases e)
  let hM:Mod K mg (iM s₁.heap H):=⟨E9,uF jY,⟨mb,uF hb,QS⟩,let ⟨mc,h1,h2⟩:=Qf;⟨mc,uF h1,h2⟩⟩;let e0:sM P w K mg (iM s₁.heap H) callerA [] s₁ H:=⟨rfl,hM,λb o e=>J7 e,mS (HD _ _),trivial,λb hb=>absurd (show b∈([]:List Addr)from hb) (by simp),aA,.of_eq hg⟩;refine codeAny_mono ((F _ E9 (uF jY)).run callerA [] s₁ H ⟨[.ref a],[]⟩ [.ref a] [.ref a] _ _ hr e0 (OY s₁ (.ref a)) (.cons rfl .nil) (iu H hO hS)) λr s' h=>?_;cases r with
  |error e=>exact(yD H e s' h).elim
  |ok fl =>
   cases fl with
   |next=>exact False.elim h
   |brk=>exact False.elim h
   |cont=>exact False.elim h
   |ret u =>
    let⟨v,H',os,bare,un,Qh,r',q⟩:=h;let q':v=.bl true:=q;subst q';obtain rfl:u=Value.bool true:=r';refine⟨rfl,OldK.of_keep λb o e=>?_,os,bare⟩;cases q:H b with
    |none=>exact un.keep b o e q (by intro z;exact absurd (show b∈([]:List Addr)from z) (by simp)) (by simp)
    |some u =>
     rcases hO b with z|⟨ob,xs,z⟩
     ·rw[q]at z;cases z
     ·let z2:=un.iL b ob _ z;let⟨e1,_⟩:=aA b _ z;let⟨e2,_⟩:=Qh b _ z2;rw[e]at e1;cases e1;exact e2
 cases hk:K.lookup a with
 |some o =>
  let e:=KX a o hk;rw[ha]at e;cases e;refine core (λ_=>none) (λ_=>.inl rfl) (.inr ⟨_,vs.toArray,_,hk,rfl,rfl,rfl,by rw[dO,Qg];exact hl,by simpa using rv⟩) (λb u z=>by let z':(none:Option HO)=some u:=z;cases z') (λb z=>absurd rfl z) λz=>absurd rfl z
 |none =>
  refine core (λb=>if b=a then some (.ck { cls:=.type "list",data:=.seq vs.toArray } (.lst (ns.map V.int)))else none) (λb=>?_) (.inl (.inr ⟨{ cls:=.type "list",data:=.seq vs.toArray },if_pos rfl⟩)) (λb u z=>?_) (λb z=>?_) λ_=>hk
  ·by_cases hb:b=a
   ·exact .inr ⟨_,_,if_pos hb⟩
   ·exact .inl (if_neg hb)
  ·by_cases hb:b=a
   ·let z':=(if_pos hb).symm.trans z;cases z';subst hb;exact⟨ha,by rw[dC];exact hl,vs,_,rv,ha⟩
   ·let z':=(if_neg hb).symm.trans z;cases z'
  ·by_cases hb:b=a
   ·exact hb
   ·exact absurd (if_neg hb) z
def Kv{l:PySem.W.OpenLaw}{n k:Nat}{q:Program}{loose:U3}{XP:(Str→Option Value)→Heap→Prop}{YP:World→Heap→Prop}{d:DefRec}{K:Params→Uw}{CX:World→gX}{sp:World→Sp}{x:Str}
  (hn:l.most=some n) (QT:n≤sizeLine) (pB:d.params.defaults=[]) (hr:cw k callerA)
  (hY:∀(w:World) (h:Heap),YP w h→(K w.params).In h)
  (F:∀(w:World) (mg:Str→Option Value) (fa:Addr) (h:Heap),(K w.params).In h→h.Ns mainGlobals mg→mg d.name=some (.ref fa) →
   ∃fd:FuncData,(∀(s:Shared) (u:Value),BindsTo s fd ⟨[u],[]⟩ [(x,u)]) ∧
    ∀base:Heap,(K w.params).In base→base.Ns mainGlobals mg→iN l.prog w (K w.params) mg base (CX w) k fa fd [x] (sp w))
  (iu:∀(w:World) (H:Hp) (a:Addr) (ns:List Int),ns.length≤n→Only H→bf (K w.params) H a (ns.map V.int)→sp w [.ref a] H (λv _=>v=.bl true) λ_ _ _=>False)
  (yD:∀(w:World) (H:Hp) (s:Shared) (e:Value) (s':Shared),CX w [] H s (λ_ _ _=>False) e s'→False) :
  PySem.W.WalkO q loose XP YP l.row.toRowW d [] (λf vs=>PySem.call f vs):=by
 refine E8.Hf hn pB λw s₀ s₁ mg mb fa o pm cd doc a vs ns G Y ho hd fK yC w9 hints hlen hg=>?_;let KX:=hY w _ Y;let⟨fd,hb,hF⟩:=F w mg fa _ KX G.T.g yC;exact Jd KX G.T.g G.T.b G.T.builtins G.T.nolimit hg w9 hints (cC hlen QT) hr hF hb (λH hO hS=>iu w H a ns hlen hO hS) λH e s'=>yD w H s₁ e s'
abbrev dn(s:Stmt):Arguments:=match s with
 |.FunctionDef _ a _ _ _ _ _ _ _ _=>a
 |_=>{ posonlyargs:=[],args:=[],vararg:=none,kwonlyargs:=[],kw_defaults:=[],kwarg:=none,defaults:=[] }
abbrev cH(s:Stmt):List Stmt:=match s with
 |.FunctionDef _ _ b _ _ _ _ _ _ _=>b
 |_=>[]
abbrev bB(s:Stmt):Scope:=match s with
 |.FunctionDef _ _ _ _ _ _ sc _ _ _=>sc
 |_=>{ kind:=.function,names:=[],isGenerator:=false,isCoroutine:=false }
noncomputable abbrev iZ:gX:=λ_ _ _ _ _ _=>False
noncomputable abbrev E0:XK:=λ_ _ _=>False
def wJ{X:Cx}:Passes iZ X E0:=λ_ _ _ _ _ _ _ h=>h.elim
structure m5 (K:Uw)(x qual:Str)(st:Stmt)(f:Addr)(fd:FuncData):Prop where
 ex:∃(oc:Value) (od:Uz) (kV doc pm:Value) (an:Uz) (aX ct:Value) (gY:Array (Option Value)),
  fd=PySem.W.fnOf x qual (dn st) (cH st) (bB st) .none kV doc pm an aX ct∧K.lookup f=some ⟨oc,od,.func fd,gY⟩∧PySem.W.codeIn K aX qual=true
 kp:PySem.W.keepIn K (.ref f)=true
section
variable {P:Program}{w:World}{K:Uw}{mg:Str→Option Value}{base:Heap}
def m5.ok{x qual:Str}{st:Stmt}{f:Addr}{fd:FuncData}{N ps:U3}{k:Nat}{sp:Sp}(F:m5 K x qual st f fd)(S:nI N ps (bB st))(len:∀vs H Q E,sp vs H Q E→vs.length=ps.length)
  (n5:∀(aX:Value) (A:Around) (outer:List Env) (s:Shared) (H:Hp) (vs:List V) (Q:VK) (E:XK),cw k (A.deeper (envOfC qual (bB st) s.heap.objs.size f aX))→sp vs H Q E →
   ∃t,dR (jM iZ P w K mg base N qual (bB st) f aX A outer s H E).ll (cH st) t∧t { nx:=λ_ H'=>Q .non H',rt:=Q } (start N vs) H):iN P w K mg base iZ (k+1) f fd ps sp:=by
 let⟨oc,od,kV,doc,pm,an,aX,ct,gY,rfl,lk,fK⟩:=F.ex;refine DF lk fK S len λA outer s H vs Q E hr iu=>?_;let⟨t,h,q⟩:=n5 aX A outer s H vs Q E hr iu;exact⟨t,h.ll,q⟩
def m5.binds{x qual:Str}{st:Stmt}{f:Addr}{fd:FuncData}{ps:U3}(F:m5 K x qual st f fd)
  (h:∀(kV doc pm:Value) (an:Uz) (aX ct:Value) (us:Uy),us.length=ps.length→bindArgs (PySem.W.fnOf x qual (dn st) (cH st) (bB st) .none kV doc pm an aX ct) ⟨us,[]⟩=pure (ps.zip us)):Binds K fd ps []:=by
 let⟨oc,od,kV,doc,pm,an,aX,ct,gY,rfl,lk,fK⟩:=F.ex;exact .all (h kV doc pm an aX ct)
def CG{x qual:Str}{st:Stmt}{f:Addr}{oc:Value}{od an:Uz}{gY:Array (Option Value)}{kV doc pm aX ct:Value}(l:K.lookup f=some ⟨oc,od,.func (PySem.W.fnOf x qual (dn st) (cH st) (bB st) .none kV doc pm an aX ct),gY⟩)
 (c:PySem.W.codeIn K aX qual=true) (k:PySem.W.keepIn K (.ref f)=true):m5 K x qual st f (PySem.W.fnOf x qual (dn st) (cH st) (bB st) .none kV doc pm an aX ct):=⟨⟨oc,od,kV,doc,pm,an,aX,ct,gY,rfl,l,c⟩,k⟩
end
def hU{A:Around}{k:Nat}(hr:cw k A):A.units+1<cLine:=dP (Nat.add_le_add_left (by decide:1≤64) _) hr.units
section
variable {X:Cx}
end
def Qi{A B:Prop}(h:A):if true=true then A else B:=by
 rw[if_pos rfl];exact h
def aB(H H':Hp):Prop:=∀b o,H b=some o→H' b=some o
def aB.refl(H:Hp):aB H H:=λ_ _ h=>h
def aB.trans{H H1 H2:Hp}(a:aB H H1)(b:aB H1 H2):aB H H2:=λc o h=>b c o (a c o h)
def aB.free{H H':Hp}(e:aB H H'){l:Addr}(h:H' l=Option.none):H l=Option.none:=by
 cases q:H l with
 |none=>rfl
 |some o =>
  rw[e l o q]at h;cases h
section
variable {κ:Type}[DecidableEq κ]
end
def G5{α β:Type}{l:List α}{f:α→β→Sem (ForInStep β)}(g:α→β→β):∀(c:β),(∀x∈l,∀c,f x c=pure (.yield (g x c)))→forIn l c f=pure (l.foldl (λc x=>g x c) c):=by
 induction l with
 |nil=>intro c _;rfl
 |cons x l ih =>
  intro c h;rw[List.forIn_cons,h x bC,pure_bind];exact ih (g x c) λy hy=>h y (bP _ hy)
abbrev fZ(env:Env)(x:Str×NameKind)(cs:List (Str×Addr)):List (Str×Addr):=if (x.2==NameKind.free)=true then (x.1,(env.cells.lookup x.1).getD 0)::cs else cs
def kO(sc:Scope)(env:Env):List (Str×Addr):=sc.names.foldl (λcs x=>fZ env x cs) []
def vp{sc:Scope}{env:Env}(h:∀x∈sc.names,x.2=.free→∃c,env.cells.lookup x.1=some c):closureFor sc env=pure (kO sc env):=by
 simp only[closureFor];rw[G5 (fZ env) [] (λx hx c=>?_)]
 ·rfl
 ·let⟨n,kind⟩:=x;cases hk:kind==NameKind.free with
  |false=>simp[fZ,hk]
  |true =>
   let⟨a,ha⟩:=h (n,kind) hx (by simpa using hk);let QV:env.cells.lookup n=some a:=ha;simp[fZ,hk,cellOf,QV]
theorem CH(env:Env)(hh:∀(x:Str×NameKind),x.2=.free→True):∀(names:List (Str×NameKind)) (acc:List (Str×Addr)),(∀x∈names,x.2=.free→∃c,env.cells.lookup x.1=some c)→(∀x c,acc.lookup x=some c→env.cells.lookup x=some c) →
  ∀x c,(names.foldl (λcs x=>fZ env x cs) acc).lookup x=some c→env.cells.lookup x=some c
 |[],acc,_,ha,x,c,h=>ha x c h
 |y::r,acc,hf,ha,x,c,h=>by
  refine CH env hh r (fZ env y acc) (λz hz=>hf z (bP _ hz)) (λz d hd=>?_) x c h;unfold fZ at hd;split at hd
  ·rename_i hk;let⟨a,e⟩:=hf y bC (by simpa using hk);by_cases q:z=y.1
   ·subst q;simp[e]at hd;rw[e,hd]
   ·let q':(z==y.1)=false:=by simpa using q
    rw[iS,q']at hd;exact ha z d hd
  ·exact ha z d hd
theorem CJ(env:Env):∀(names:List (Str×NameKind)) (acc:List (Str×Addr)) (x:Str),((∃c,acc.lookup x=some c)∨(x,NameKind.free)∈names)→∃c,(names.foldl (λcs x=>fZ env x cs) acc).lookup x=some c
  |[],acc,x,h=>by
    rcases h with h|h
    · exact h
    · exact nomatch h
  |y::r,acc,x,h=>by
    refine CJ env r (fZ env y acc) x ?_;by_cases hk:(y.2==NameKind.free)=true
    · by_cases q:x=y.1
      · refine .inl ⟨(env.cells.lookup y.1).getD 0,?_⟩
        unfold fZ;rw[if_pos hk,q];simp
      · have q':(x==y.1)=false:=by simpa using q
        rcases h with⟨c,h⟩|h
        · refine .inl ⟨c,?_⟩
          unfold fZ;rw[if_pos hk,iS,q'];exact h
        · rcases cS.mp h with e|e
          · exact absurd (bT (·.1) e) q
          · exact .inr e
    · rcases h with⟨c,h⟩|h
      · refine .inl ⟨c,?_⟩
        unfold fZ;rw[if_neg hk];exact h
      · rcases cS.mp h with e|e
        · refine absurd ?_ hk
          rw[←e];rfl
        · exact .inr e
theorem qh{env:Env}{x:Str}{k:NameKind}:∀{names:List (Str×NameKind)},(names.map λ(n,k)=>if (k==NameKind.free&&env.scope.kind==.function&&env.kindOf n==some .cell)then (n,NameKind.cell)else (n,k)).lookup x=some k →
    names.lookup x=some k∨(k=.cell∧names.lookup x=some .free)
  |[],h=>by simp at h
  | (n,j)::r,h=>by
    let ih:=@qh env x k r;rw[cj]at h;cases hx:x==n with
    |true =>
      by_cases hc:(j==NameKind.free&&env.scope.kind==.function&&env.kindOf n==some .cell)=true
      · simp only[hc,if_true]at h
        rw[iS,hx]at h;let e:NameKind.cell=k:=cY h;refine .inr ⟨e.symm,?_⟩;rw[iS,hx];simp only[Bool.and_eq_true]at hc;let ej:j=.free:=by simpa using hc.1.1
        rw[ej]
      · simp only[hc,Bool.false_eq_true,if_false]at h
        rw[iS,hx]at h;exact .inl (by rw[iS,hx];exact h)
    |false =>
      let h':(r.map λ(n,k)=>if (k==NameKind.free&&env.scope.kind==.function&&env.kindOf n==some .cell)then (n,NameKind.cell)else (n,k)).lookup x=some k:=by
        by_cases hc:(j==NameKind.free&&env.scope.kind==.function&&env.kindOf n==some .cell)=true
        · simp only[hc,if_true]at h
          rw[iS,hx]at h;exact h
        · simp only[hc,Bool.false_eq_true,if_false]at h
          rw[iS,hx]at h;exact h
      rw[iS,hx];exact ih h'
def Cx.aV(X:Cx)(N:U3)(sc:Scope)(C:Addr)(s₂:Shared)(H₂:Hp)(fp:List Addr)(pn:Ux):Cx where
 prog:=X.prog
 w:=X.w
 K:=X.K
 mg:=X.mg
 base:=X.base
 A:=X.A
 N:=N
 s₀:=s₂
 H₀:=H₂
 env:=compEnvC sc (kO sc X.env) C X.env
 outer:=X.stack
 stack:=X.stack
 ex:=fp
 fn:=λ_=>false
 calm:=X.calm
 pn:=pn
 xe:=λ_ _=>False
def i3(X:Cx)(ifs:U2)(t:TT):Prop :=
 ∀(pins:Ux) (s:Shared) (σ:St) (H:Hp) (Q:Bool→Hp→Prop),Inv X pins σ H s→t σ H Q →
  wpAny (model X.prog X.w) X.A (forIn ifs true λc r=>if r=true then do let ok ←isTrue c X.env (eval c X.env);pure (ForInStep.yield ok)else pure (ForInStep.yield r)) (TP X pins σ Q) X.xe s
abbrev sU:TT:=λ_ H Q=>Q true H
def nK{X:Cx}:i3 X [] sU:=λ_ _ _ H _ I h=>wpAny_tests_nil ⟨H,I,h⟩
def vO{X:Cx}{c:Expr}{t:TT}(h:PT X c t):i3 X [c] t:=λpins s σ H Q I hq=>wpAny_tests_one (h pins s σ H Q I hq)
abbrev cy(σ:St)(ix:U0):St:=ix.map λi=>(σ[i]?).getD none
def n9(J:It)(D:Addr)(H1:Hp)(fr:St)(tc:TT)(te:TE)(Q:Addr→Hp→Prop):Prop :=
 ∃W:Nat→Nat→Hp→Prop,(∃m,W 0 m (upd H1 D (.lst [])))∧∀i m H,W i m H→(J.stop i H∧Q D H) ∨
  (J.go i H∧∀x H',J.gW i H x H'→tc (some x::fr) H' λb H3=>if b=true then te (some x::fr) H3 λy H4=>∃ys,H4 D=some (.lst ys)∧ys.length<sizeLine∧∃m',m'<m∧W (i+1) m' (upd H4 D (.lst (ys++[y])))
   else ∃m',m'<m∧W (i+1) m' H3)
def rq(gg:TG)(n:Nat)(J:It)(D:Addr)(H1:Hp)(fr:St)(tc:TT)(te:TE)(Q:Addr→Hp→Prop):Prop :=
 ∃W:Nat→Nat→Hp→Prop,(∃m,W 0 m (upd H1 D (.lst [])))∧∀i m H,W i m H→(J.stop i H∧Q D H) ∨
  (J.go i H∧∀x H',J.gW i H x H'→gg x (List.replicate n none++fr) H' λσ' H2=>H2=H'∧(∃ow:St,ow.length=n∧σ'=ow++fr)∧tc σ' H' λb H3=>if b=true then te σ' H3 λy H4=>∃ys,H4 D=some (.lst ys)∧ys.length<sizeLine∧∃m',m'<m∧W (i+1) m' (upd H4 D (.lst (ys++[y])))
   else ∃m',m'<m∧W (i+1) m' H3)
theorem n9.g{J:It}{D:Addr}{H1:Hp}{fr:St}{tc:TT}{te:TE}{Q:Addr→Hp→Prop}(h:n9 J D H1 fr tc te Q):rq (ft 0) 1 J D H1 fr tc te Q:=by
 let⟨W,h0,h⟩:=h;refine⟨W,h0,λi m H w=>?_⟩;rcases h i m H w with z|⟨g,z⟩
 ·exact .inl z
 ·exact .inr ⟨g,λx H' y=>⟨rfl,⟨[some x],rfl,rfl⟩,z x H' y⟩⟩
def lZ(wi:TI)(ix:U0)(tc:TT)(te:TE):TE:=λσ H Q=>wi σ H λJ H1=>∀D,H1 D=none→n9 J D H1 (cy σ ix) tc te λD H=>Q (.ref D) H
def Hg{prog:Program}{w:World}{A:Around}{s:Shared}{R:Result→Shared→Prop}{elt target iter:Expr}{ifs:U2}{scope:Scope}{pos:Pos}{it acc:Value}{env:Env}(I:Nat→Shared→Prop)
  (turn:∀n s,I n s→wpAny (model prog w) A (pyNext it) (λr s₁=>match r with
   |none=>R (.ok .next) s₁
   |some v=>wpAny (model prog w) A (letOwnedTupleGo target it v) (λ_ s₂=>wpAny (model prog w) A (assign target env v) (λ_ s₃ =>
    wpAny (model prog w) A (forIn ifs true λc r=>if r=true then do let ok ←isTrue c env (eval c env);pure (ForInStep.yield ok)else pure (ForInStep.yield r)) (λok s₄ =>
     if ok=true then wpAny (model prog w) A (eval elt env) (λx s₅ =>
      wpAny (model prog w) A (call (.builtin "list.append") [acc,x]) (λ_ s₆=>∃m,m<n∧I m s₆) (notedBy (model prog w) A env λe s'=>R (.error e) s') s₅) (notedBy (model prog w) A env λe s'=>R (.error e) s') s₄
     else ∃m,m<n∧I m s₄) (notedBy (model prog w) A env λe s'=>R (.error e) s') s₃) (notedBy (model prog w) A env λe s'=>R (.error e) s') s₂) (notedBy (model prog w) A env λe s'=>R (.error e) s') s₁) (notedBy (model prog w) A env λe s'=>R (.error e) s') s)
  (n:Nat) (h:I n s) :
  codeAny (model prog w) A (.compLoop (.ListComp elt [⟨target,iter,ifs,0⟩] scope pos) 0 it acc env) R s:=by
 refine codeAny_loop rfl I (λn s hI=>?_) n h;show wpAny _ A ((compTurn (.ListComp elt [⟨target,iter,ifs,0⟩] scope pos) 0 it acc env).onRaise (λx=>do noteFrame x env;theTreesLotGoes x)) _ _ s;refine wpAny_noted ?_;rw[compTurn_list];refine ax (tU (ax (cZ (turn n s hI) (λr s₁ h₁=>?_) λ_ _ h'=>h')));cases r with
 |none=>exact aS h₁
 |some v =>
  refine ax (cZ h₁ (λ_ s₂ h₂=>?_) λ_ _ h'=>h');refine ax (cZ h₂ (λ_ s₃ h₃=>ax (cZ h₃ (λok s₄ h₄=>?_) λ_ _ h'=>h')) λ_ _ h'=>h');cases ok with
  |false=>exact aS ⟨rfl,h₄⟩
  |true =>
   exact ax (ax (cZ h₄ (λx s₅ h₅=>ax (cZ h₅ (λ_ s₆ h₆=>aS (aS ⟨rfl,h₆⟩)) λ_ _ h'=>h')) λ_ _ h'=>h'))
structure iJ (N N':U3)(sc aj:Scope)(x:Str)(ix:U0):Prop where
 kind:aj.kind=.function
 rA:∀y∈aj.names,y.2≠.cell
 names:∀y∈aj.names,y.2=.local→aj.names.lookup y.1=some .local
 loc:aj.names.lookup x=some .local
 free:∀y∈aj.names,y.2=.free→sc.names.lookup y.1=some .cell
 nd:N'.Nodup
 hd:N'[0]?=some x
 len:N'.length=ix.length+1
 fr:∀p∈ix.zip N'.tail,N[p.1]?=some p.2∧sc.names.lookup p.2=some .cell∧aj.names.lookup p.2=some .free
structure qZ (n:Nat)(N N':U3)(sc aj:Scope)(ix:U0):Prop where
 kind:aj.kind=.function
 rA:∀y∈aj.names,y.2≠.cell
 names:∀y∈aj.names,y.2=.local→aj.names.lookup y.1=some .local
 free:∀y∈aj.names,y.2=.free→sc.names.lookup y.1=some .cell
 len:N'.length=ix.length+n
 fr:∀p∈ix.zip (N'.drop n),N[p.1]?=some p.2∧sc.names.lookup p.2=some .cell∧aj.names.lookup p.2=some .free
def iJ.g{N N':U3}{sc aj:Scope}{x:Str}{ix:U0}(h:iJ N N' sc aj x ix):qZ 1 N N' sc aj ix :=
 ⟨h.kind,h.rA,h.names,h.free,h.len,by rw[List.drop_one];exact h.fr⟩
section
variable {X:Cx}{N':U3}{aj:Scope}{x:Str}{ix:U0}{px pos:Pos}{elt iter:Expr}{ifs:U2}{wi:TI}{tc:TT}{te:TE}
def zR{n:Nat}{tg:Expr}{gg:TG}{pins:Ux}{σ:St}{H2:Hp}{s2:Shared}{it:Addr}{fp:List Addr}{tn:Nat→Heap→Prop}{J:It}{RR:Value→Addr→Result→Shared→Prop}{E:Uu}{Qd:Addr→Hp→Prop}
  (ok:qZ n X.N N' X.env.scope aj ix) (hg:∀C s₂ H₂ fp pn,PG (X.aV N' aj C s₂ H₂ fp pn) tg gg) (hc:X.calm=true) (I2:Inv X pins σ H2 s2) (T:Turn X.prog X.w X.K tg J fp it tn) (aR:tn 0 s2.heap) (f2:∀b∈fp,gK X pins H2 b)
  (fP:∀C s₂ H₂ fp pn,i3 (X.aV N' aj C s₂ H₂ fp pn) ifs tc) (eV:∀C s₂ H₂ fp pn,PE (X.aV N' aj C s₂ H₂ fp pn) elt te)
  (hW:∀D,H2 D=none→rq gg n J D H2 (cy σ ix) tc te Qd)
  (yE:∀D C s4 H4 m,Inv X pins σ H4 s4→s4.heap.Ns C m→(∀(h':Heap) (t':Nat) (σ':St) (s5:Shared),Inv X pins σ' H4 s5→Heap.SameBut C s5.heap h'→Inv X pins σ' H4 { s5 with heap:=h',toks:=t' })→C≠X.env.locals→(∀y c,X.env.cells.lookup y=some c→c≠C)→Qd D H4→RR (.ref D) C (.ok .next) s4) :
  wpAny (model X.prog X.w) X.A (newList []) (λacc s₃=>wpAny (model X.prog X.w) X.A (newFunctionEnv aj X.env.globals (kO aj X.env) [] X.env.qual none .none (some X.env)) (λot s₄ =>
   codeAny (model X.prog X.w) X.A (.compStart (.ListComp elt [⟨tg,iter,ifs,0⟩] aj pos) 0 (.ref it) acc { ot with scope:=relabel aj X.env }) (RR acc ot.locals) s₄) E s₃) E s2:=by
 refine ua (wpAny_newFunctionEnv ok.rA (by intro y hy;simp at hy) (λh₁ hns₁ hsb₁=>?_) ok.kind);dsimp only at hns₁ hsb₁ ⊢;generalize yF:s2.heap.push { cls:=.type "list",dict:=none,data:=.seq ([]:Uy).toArray }=HP at hns₁ hsb₁ ⊢;let hC:HP.objs.size=s2.heap.objs.size+1:=by rw[←yF,Heap.size_push]
 let uG:s2.heap.objs.size≠HP.objs.size:=by rw[hC];exact cR (Nat.lt_succ_self _)
 let ou:s2.heap.objs.size≤HP.objs.size:=by rw[hC];exact Nat.le_succ _
 let below:∀b,b<s2.heap.objs.size→b≠HP.objs.size∧b≠s2.heap.objs.size:=λb hb=>⟨by rw[hC];exact cR (Nat.lt_succ_of_lt hb),cR hb⟩;let old:∀b o,s2.heap.get? b=some o→h₁.get? b=some o:=λb o e=>hsb₁.extBut b o (below b (bu e)).1 (cJ _ (yF▸cJ _ e));let mB:h₁.get? s2.heap.objs.size=some { cls:=.type "list",dict:=none,data:=.seq ([]:Uy).toArray }:=hsb₁.extBut _ _ uG (cJ _ (yF▸eO _ rfl));let yG:H2 s2.heap.objs.size=none:=I2.aA.fresh (aK _);let Fc:H2 HP.objs.size=none:=I2.aA.fresh ou;generalize hD:s2.heap.objs.size=D at uG mB yG ⊢;generalize TN:HP.objs.size=C at hns₁ hsb₁ uG Fc ou below ⊢;let rK:∀y∈aj.names,y.2=.free→∃c,X.env.cells.lookup y.1=some c:=λy hy e=>I2.ok.has y.1 (.inl (ok.free y hy e));let jZ:∀y c,(kO aj X.env).lookup y=some c→X.env.cells.lookup y=some c:=CH X.env (λ_ _=>trivial) aj.names [] rK (λ_ _ z=>by simp at z);let Fd:∀y,(y,NameKind.free)∈aj.names→∃c,(kO aj X.env).lookup y=some c:=λy hy=>CJ X.env aj.names [] y (.inr hy);let CK:∀y c,X.env.cells.lookup y=some c→c<s2.heap.objs.size:=λy c e=>by
  let⟨v,o,ho,_⟩:=I2.cell y c e;exact bu ho
 let xa:∀b∈fp,b<s2.heap.objs.size:=λb hb=>by
  let⟨o,e,_⟩:=T.obj 0 _ aR b hb;exact bu e
 let xc:∀b,b≠X.env.locals→b∉X.fs→b∉gu X.stack:=λb h1 h2 z=>(cS.mp (I2.v8 b z)).elim h1 h2;let Fe:(X.aV N' aj C s2 H2 fp (X.pn++pins)).Ok:=by
  refine⟨I2.ok.mod,ok.kind,I2.ok.glob,I2.ok.blt,ou,λy z c h1 h2=>?_,λy hy=>?_,λy c z=>?_,I2.ok.hd,I2.ok.frames,.inl rfl,λb hb=>?_,I2.bs,cC I2.ok.iT I2.sz,λb o e hb=>?_,λb hb=>?_,I2.stack,I2.Bl⟩
  ·exact I2.ok.inj y z c (jZ y c h1) (jZ z c h2)
  ·let yA:(relabel aj X.env).names.lookup y=some .cell∨(relabel aj X.env).names.lookup y=some .free:=hy;let hf:aj.names.lookup y=some .free:=by
    rcases yA with z|z
    ·rcases qh z with q|q
     ·exact absurd rfl (ok.rA _ (jQ q))
     ·exact q.2
    ·rcases qh z with q|q
     ·exact q
     ·exact absurd q.1 (by decide)
   exact Fd y (jQ hf)
  ·exact nomatch z
  ·exact⟨(below b (xa b hb)).1,λy c e=>(f2 b hb).2.2.2.2.1 y c (jZ y c e)⟩
  ·rcases (f2 b hb).2.2.2.1 with z|z
   ·exact I2.ok.oh b o e z
   ·exact absurd (dB (bu e) (cC I2.ok.iT z)) (gR _)
  ·exact xc b (f2 b hb).2.1 (f2 b hb).2.2.1
 let yH:∀{H':Hp},(∀b∈fp,H' b=none)→∀b∈fp,gK (X.aV N' aj C s2 H2 fp (X.pn++pins)) [] H' b:=λhn b hb =>
  ⟨hn b hb,(below b (xa b hb)).1,xc b (f2 b hb).2.1 (f2 b hb).2.2.1,.inl hb,λy c e=>(f2 b hb).2.2.2.2.1 y c (jZ y c e),λp hp=>(f2 b hb).2.2.2.2.2 p (by simpa using (show p∈(X.pn++pins)++[] from hp))⟩
 let⟨mL,TQ,OZ⟩:=id I2.loc;let IB:Inv (X.aV N' aj C s2 H2 fp (X.pn++pins)) [] (List.replicate n none++cy σ ix) (upd H2 D (.lst [])) { s2 with heap:=h₁,toks:=s2.toks+([]:List (Str×Value)).length }:=by
  refine⟨Fe,rfl,I2.bare,Un.laid old (mS hD) yG,⟨_,hns₁,λi y v h1 h2 h3=>?_⟩,λy c e=>?_,?_,λy c e=>?_,λp hp=>?_,I2.aA.laid old (mS hD) ⟨ik _,[],_,.nil,mB⟩,?_⟩
  ·by_cases Ff:i<n
   ·rw[oK (by simpa using Ff),xZ,if_pos Ff]at h2;cases h2
   ·obtain⟨j,rfl⟩:∃j,i=n+j:=⟨i-n,by omega⟩;let m6:(cy σ ix)[j]?=some (some v):=by
     rw[List.getElem?_append_right (by simp)]at h2;simpa using h2
    unfold cy at m6;rw[dN]at m6;cases ei:ix[j]? with
    |none=>rw[ei]at m6;cases m6
    |some i =>
     rw[ei]at m6;let sW:(σ[i]?).getD none=some v:=cY m6;let hσ:σ[i]?=some (some v):=by
      cases es:σ[i]? with
      |none=>rw[es]at sW;cases sW
      |some q=>rw[es]at sW;exact bT some sW
     let Qj:(N'.drop n)[j]?=some y:=by rw[List.getElem?_drop];exact h1
     let⟨n1,n2,n3⟩:=ok.fr (i,y) (c9 (i:=j) (by rw[List.getElem?_zip_eq_some];exact⟨ei,Qj⟩));let⟨u,ru,lk⟩:=OZ i y v n1 hσ (.inr (.inl n2));refine⟨u,ru,?_⟩;rcases lk with⟨k,_⟩|⟨_,c,ec,z⟩
     ·let k':X.env.scope.names.lookup y=some .local:=k;rw[n2]at k';cases k'
     ·let⟨c',Fg⟩:=Fd y (jQ n3);let e3:=jZ y c' Fg;rw[ec]at e3;cases e3;let kk:(relabel aj X.env).names.lookup y=some .cell∨(relabel aj X.env).names.lookup y=some .free:=by
       rcases h3 with q|q|q
       ·let q':(relabel aj X.env).names.lookup y=some .local:=q;rcases qh q' with r|r
        ·rw[n3]at r;cases r
        ·exact absurd r.1 (by decide)
       ·exact .inl q
       ·exact .inr q
      exact .inr ⟨kk,c,Fg,z.keeps old⟩
  ·let⟨v,z⟩:=I2.cell y c (jZ y c e);exact⟨v,z.keeps old⟩
  ·show upd H2 D (.lst []) C=none;rw[aD (ig uG)];exact Fc
  ·show upd H2 D (.lst []) c=none;let l:=CK y c (jZ y c e);rw[aD (λq=>by rw[q,←hD]at l;exact gR _ l)];exact I2.gG y c (jZ y c e)
  ·let QW:p∈X.pn++pins:=by simpa using (show p∈(X.pn++pins)++[] from hp)
   let⟨e,n,ne,nf,d⟩:=I2.pin p QW;let l:=bu e;refine⟨old _ _ e,?_,(below p.1 l).1,xc p.1 ne nf,d⟩;rw[aD (λq=>by rw[q,←hD]at l;exact gR _ l)];exact n
  ·show(List.replicate n none++cy σ ix:St).length=N'.length;rw[ok.len];simp[cy,Nat.add_comm]
 let back:∀{H4:Hp}{s4:Shared}{σ4:St}{ps:Ux},Inv (X.aV N' aj C s2 H2 fp (X.pn++pins)) ps σ4 H4 s4→Inv X pins σ H4 s4:=λI4 =>
  I2.Oz I4.os I4.base I4.aA I4.bare λb hb=>⟨(f2 b hb).2.2.2.1,(f2 b hb).2.1,(f2 b hb).2.2.2.2.1,(f2 b hb).2.2.2.2.2⟩
 let lj:C≠X.env.locals:=λz=>by
  let l:=I2.lt;rw[←z]at l;exact absurd (dB l ou) (gR _)
 let iV:∀y c,X.env.cells.lookup y=some c→c≠C:=λy c e=>(below c (CK y c e)).1;let QX:∀p∈X.pn++pins,p.1≠C:=λp hp=>(below p.1 (bu (I2.pin p hp).1)).1;let loop:∀s₃:Shared,s₃={ s2 with heap:=h₁,toks:=s2.toks+([]:List (Str×Value)).length } →
   codeAny (model X.prog X.w) X.A (.compLoop (.ListComp elt [⟨tg,iter,ifs,0⟩] aj pos) 0 (.ref it) (.ref D) (compEnvC aj (kO aj X.env) C X.env)) (RR (.ref D) C) s₃:=by
  rintro s₃ rfl;let⟨W,⟨m0,QY⟩,turn⟩:=hW D yG;refine Hg (λk s'=>∃i H',Inv (X.aV N' aj C s2 H2 fp (X.pn++pins)) [] (List.replicate n none++cy σ ix) H' s'∧tn i s'.heap∧(∀b∈fp,H' b=none)∧W i k H') ?_ m0
   ⟨0,_,IB,T.keep _ _ _ aR λb _ o e=>old b o e,λb hb=>?_,QY⟩
  ·rintro k s3 ⟨i,H3,I3,aZ,ph,w3⟩;rcases turn i k H3 w3 with⟨stop,qn⟩|⟨go,step⟩
   ·refine ay (T.done (X.aV N' aj C s2 H2 fp (X.pn++pins)) rfl rfl rfl hc i [] s3 _ H3 _ I3 (yH ph) aZ stop) λr s4 ⟨hr,I4⟩=>?_;subst hr;let⟨m4,QZ,_⟩:=id I4.loc;refine yE D C s4 H3 m4 (back I4) QZ (λh' t' σ' s5 I5 sb=>I5.turned (it:=C) (λb o hb e=>(sb.2 b hb).trans e) I4.free lj (.inr (cC I2.sz ou)) iV QX) lj iV qn
   ·refine ay (T.item (X.aV N' aj C s2 H2 fp (X.pn++pins)) rfl rfl rfl hc i [] s3 _ H3 _ I3 (yH ph) aZ go) λr s4 ⟨u,hr,h4⟩=>?_;subst hr;refine ay h4 λ_ s5 ⟨v,H5,I5,r5,y5,dS,yu⟩=>?_;let yv:=I5.pinned (yH yu) (T.obj _ _ dS);let fin:∀{ow:St}{H7:Hp}{s7:Shared},ow.length=n→Inv (X.aV N' aj C s2 H2 fp (X.pn++pins)) ([]++nR fp s5.heap) (ow++cy σ ix) H7 s7→∀{m':Nat},m'<k→W (i+1) m' H7 →
      ∃m,m<k∧∃i H',Inv (X.aV N' aj C s2 H2 fp (X.pn++pins)) [] (List.replicate n none++cy σ ix) H' s7∧tn i s7.heap∧(∀b∈fp,H' b=none)∧W i m H':=λ{ow H7 s7} how I7 {m'} hm w7=>by
     refine⟨m',hm,i+1,H7,I7.qM.weak (by rw[cK,cK,how,tY]) (λj q e=>?_),T.keep _ _ _ dS λb hb o e=>(I7.pin (b,o) (eQ _ (eQ _ (qx hb e)))).1,λb hb=>?_,w7⟩
     ·by_cases hj:j<n
      ·rw[oK (by simpa using hj),xZ,if_pos hj]at e;cases e
      ·rw[List.getElem?_append_right (by simpa using hj)]at e;rw[List.getElem?_append_right (by omega),how];simpa using e
     ·let⟨o,e,d⟩:=T.obj _ _ dS b hb;exact(I7.pin (b,o) (eQ _ (eQ _ (qx hb e)))).2.1
    refine cZ (hg C s2 H2 fp (X.pn++pins) _ s5 _ H5 v u _ yv r5 (step v H5 y5)) (λ_ s6 ⟨σ6,H6,I6,e1,⟨ow,how,e2⟩,q6⟩=>?_) λ_ _ z=>z.elim;subst e1 e2;refine cZ (fP C s2 H2 fp (X.pn++pins) _ s6 _ _ _ I6 q6) (λb s7 ⟨H7,I7,q7⟩=>?_) λ_ _ z=>z.elim;cases b with
    |false =>
     rw[if_neg aL]at q7 ⊢;let⟨m',hm,w7⟩:=q7;exact fin how I7 hm w7
    |true =>
     rw[if_pos rfl]at q7 ⊢;refine cZ (eV C s2 H2 fp (X.pn++pins) _ s7 _ _ _ I7 q7) (λuy s8 ⟨y,H8,I8,r8,ys,fQ,hl,m',hm,w8⟩=>?_) λ_ _ z=>z.elim;refine cZ (Aw (X:=X.aV N' aj C s2 H2 fp (X.pn++pins)) _ s8 _ H8 (.ref D) [y] (.ref D) [uy] (λ_ H'=>H'=upd H8 D (.lst (ys++[y]))) I8 rfl (.cons r8 .nil) ⟨D,ys,y,rfl,rfl,fQ,hl,rfl⟩) (λ_ s9 ⟨z,H9,I9,_,q9⟩=>?_) λ_ _ z=>z.elim;subst q9;exact fin how I9 hm w8
  ·show upd H2 D (.lst []) b=none;let l:=xa b hb;rw[aD (λq=>by rw[q,←hD]at l;exact gR _ l)];exact(f2 b hb).1
 exact codeAny_compStart_list (loop _ rfl) (T.self X.A 0 _ _ _ (T.keep _ _ _ aR λb _ o e=>old b o e) (loop _ rfl))
def z9{pins:Ux}{σ:St}{H2:Hp}{s2:Shared}{it:Addr}{fp:List Addr}{tn:Nat→Heap→Prop}{J:It}{RR:Value→Addr→Result→Shared→Prop}{E:Uu}{Qd:Addr→Hp→Prop}
  (ok:iJ X.N N' X.env.scope aj x ix) (hc:X.calm=true) (I2:Inv X pins σ H2 s2) (T:Turn X.prog X.w X.K (.Name x px) J fp it tn) (aR:tn 0 s2.heap) (f2:∀b∈fp,gK X pins H2 b)
  (fP:∀C s₂ H₂ fp pn,i3 (X.aV N' aj C s₂ H₂ fp pn) ifs tc) (eV:∀C s₂ H₂ fp pn,PE (X.aV N' aj C s₂ H₂ fp pn) elt te)
  (hW:∀D,H2 D=none→n9 J D H2 (cy σ ix) tc te Qd)
  (yE:∀D C s4 H4 m,Inv X pins σ H4 s4→s4.heap.Ns C m→(∀(h':Heap) (t':Nat) (σ':St) (s5:Shared),Inv X pins σ' H4 s5→Heap.SameBut C s5.heap h'→Inv X pins σ' H4 { s5 with heap:=h',toks:=t' })→C≠X.env.locals→(∀y c,X.env.cells.lookup y=some c→c≠C)→Qd D H4→RR (.ref D) C (.ok .next) s4) :
  wpAny (model X.prog X.w) X.A (newList []) (λacc s₃=>wpAny (model X.prog X.w) X.A (newFunctionEnv aj X.env.globals (kO aj X.env) [] X.env.qual none .none (some X.env)) (λot s₄ =>
   codeAny (model X.prog X.w) X.A (.compStart (.ListComp elt [⟨.Name x px,iter,ifs,0⟩] aj pos) 0 (.ref it) acc { ot with scope:=relabel aj X.env }) (RR acc ot.locals) s₄) E s₃) E s2:=by
 let uH:∀C s₂ H₂ fp pn,(X.aV N' aj C s₂ H₂ fp pn).env.scope.names.lookup x=some .local:=λ_ _ _ _ _=>lookup_relabel_local ok.loc;exact zR ok.g (λC s₂ H₂ fp pn=>qX (X:=X.aV N' aj C s₂ H₂ fp pn) (i:=0) ok.nd ok.hd (.inl (uH C s₂ H₂ fp pn)) (.inr (uH C s₂ H₂ fp pn))) hc I2 T aR f2 fP eV (λD hD=>(hW D hD).g) yE
def q8(ok:iJ X.N N' X.env.scope aj x ix)(hc:X.calm=true)(hi:PI X (.Name x px) iter wi)(fP:∀C s₂ H₂ fp pn,i3 (X.aV N' aj C s₂ H₂ fp pn) ifs tc)(eV:∀C s₂ H₂ fp pn,PE (X.aV N' aj C s₂ H₂ fp pn) elt te)
  (hs:∀x,foldedSetIterable iter X.env x=pure x:=by intro _;rfl):PE X (.ListComp elt [⟨.Name x px,iter,ifs,0⟩] aj pos) (lZ wi ix tc te):=by
 intro pins s σ H Q I h;rw[eval_ListComp];refine wpAny_comprehension_free (use:=none) rfl hs (vp λy hy e=>I.ok.has y.1 (.inl (ok.free y hy e))) ok.kind ok.names (ay (hi pins s σ H _ I h) λv s1 h1=>ay h1 λoZ s2 h2=>?_);let⟨it,fp,tn,J,H2,e,I2,T,aR,f2,hW⟩:=h2;subst e;refine z9 (RR:=λacc C=>compPost (model X.prog X.w) X.A X.xe none (EP X pins σ Q) acc C) (Qd:=λD H=>Q (.ref D) H) ok hc I2 T aR f2 fP eV hW ?_;intro D C s4 H4 m I4 jY tr _ _ q;exact⟨m,jY,λh' sb=>⟨.ref D,H4,tr h' s4.toks σ s4 I4 sb,rfl,q⟩⟩
def Ht{i:Nat}{y:Str}{py ox:Pos}(hN:X.N.Nodup)(yI:X.N[i]?=some y)(hy:X.env.scope.names.lookup y=some .local)(ok:iJ X.N N' X.env.scope aj x ix)(hc:X.calm=true)(hi:PI X (.Name x px) iter wi)(fP:∀C s₂ H₂ fp pn,i3 (X.aV N' aj C s₂ H₂ fp pn) ifs tc)
  (eV:∀C s₂ H₂ fp pn,PE (X.aV N' aj C s₂ H₂ fp pn) elt te) (yJ:swapsWith (.ListComp elt [⟨.Name x px,iter,ifs,0⟩] aj pos) (some (.Name y py)) ox.line X.env=pure true:=by rfl)
  (hs:∀x,foldedSetIterable iter X.env x=pure x:=by intro _;rfl):PS X (.Assign [.Name y py] (.ListComp elt [⟨.Name x px,iter,ifs,0⟩] aj pos) ox) (gJ (lZ wi ix tc te) (ft i)):=by
 intro pins s σ H D I h;rw[exec_Assign_Name_used _ _ _ _ yJ];refine ax (tU (ax ?_));show wpAny _ X.A (do let _ ←comprehension (.ListComp elt [⟨.Name x px,iter,ifs,0⟩] aj pos) aj X.env _ (newList []) false (eval iter X.env) (some (assign (.Name y py) X.env))) _ _ s;refine ax (cZ (wpAny_comprehension_free (use:=some (assign (.Name y py) X.env)) (Q:=λ_ s'=>SP X pins D .next s') rfl hs (vp λy hy e=>I.ok.has y.1 (.inl (ok.free y hy e))) ok.kind ok.names
  (ay (hi pins s σ H _ I h) λv s1 h1=>ay h1 λoZ s2 h2=>?_)) (λ_ s' hq=>aS (aS hq)) λ_ _ e=>e)
 let⟨it,fp,tn,J,H2,e,I2,T,aR,f2,hW⟩:=h2;subst e;refine z9 (RR:=λacc C=>compPost (model X.prog X.w) X.A X.xe (some (assign (.Name y py) X.env)) (λ_ s'=>SP X pins D .next s') acc C) (Qd:=λB H=>D.nx (σ.set i (some (.ref B))) H) ok hc I2 T aR f2 fP eV hW ?_;intro B C s4 H4 m I4 jY tr lj iV q;show wpAny _ X.A (assign (.Name y py) X.env (.ref B)) _ _ s4;refine wpAny_assign_Name (Aq I4 hN yI (.inl hy) (show RelV (.ref B) (.ref B)from rfl) (λs5 I5 ⟨a,sb,ha⟩=>?_) (.inr hy));let Q0:C≠a:=by
  rcases ha with e|e
  ·rw[e];exact lj
  ·exact ig (iV y a e)
 exact⟨m,jY.sameBut sb Q0,λh' Q5=>⟨_,H4,tr h' s5.toks _ s5 I5 Q5,q⟩⟩
def CL(gg:TG)(n:Nat)(wi:TI)(ix:U0)(tc:TT)(te:TE):TE:=λσ H Q=>wi σ H λJ H1=>∀D,H1 D=none→rq gg n J D H1 (cy σ ix) tc te λD H=>Q (.ref D) H
def AY{n:Nat}{tg:Expr}{gg:TG}(ok:qZ n X.N N' X.env.scope aj ix)(hg:∀C s₂ H₂ fp pn,PG (X.aV N' aj C s₂ H₂ fp pn) tg gg)(hc:X.calm=true)(hi:PI X tg iter wi)(fP:∀C s₂ H₂ fp pn,i3 (X.aV N' aj C s₂ H₂ fp pn) ifs tc)(eV:∀C s₂ H₂ fp pn,PE (X.aV N' aj C s₂ H₂ fp pn) elt te)
  (hs:∀x,foldedSetIterable iter X.env x=pure x:=by intro _;rfl):PE X (.ListComp elt [⟨tg,iter,ifs,0⟩] aj pos) (CL gg n wi ix tc te):=by
 intro pins s σ H Q I h;rw[eval_ListComp];refine wpAny_comprehension_free (use:=none) rfl hs (vp λy hy e=>I.ok.has y.1 (.inl (ok.free y hy e))) ok.kind ok.names (ay (hi pins s σ H _ I h) λv s1 h1=>ay h1 λoZ s2 h2=>?_);let⟨it,fp,tn,J,H2,e,I2,T,aR,f2,hW⟩:=h2;subst e;refine zR (RR:=λacc C=>compPost (model X.prog X.w) X.A X.xe none (EP X pins σ Q) acc C) (Qd:=λD H=>Q (.ref D) H) ok hg hc I2 T aR f2 fP eV hW ?_;intro D C s4 H4 m I4 jY tr _ _ q;exact⟨m,jY,λh' sb=>⟨.ref D,H4,tr h' s4.toks σ s4 I4 sb,rfl,q⟩⟩
end
def f7(h:Heap)(d:Addr)(es:Array DictEntry)(ep:Nat):Prop:=∃o,h.get? d=some o∧o.ExactDict∧o.data=.dict es ep
def f7.ty{s:Shared}{d:Addr}{es:Array DictEntry}{ep:Nat}(x:f7 s.heap d es ep):s.TypeIs (.ref d) "dict" := let ⟨o,ho,hc,_⟩:=x;⟨o,ho,hc.1⟩
def f7.at{h h':Heap}{d:Addr}{es:Array DictEntry}{ep:Nat}(x:f7 h d es ep)(e:∀o,h.get? d=some o→h'.get? d=some o):f7 h' d es ep:=let ⟨o,ho,r⟩:=x;⟨o,e _ ho,r⟩
def f7.lt{h:Heap}{d:Addr}{es:Array DictEntry}{ep:Nat}(x:f7 h d es ep):d<h.objs.size:=let ⟨_,ho,_⟩:=x;bu ho
section
variable {prog:Program}{w:World}{A:Around}{E:Uu}{s:Shared}{d it:Addr}{es:Array DictEntry}{i ep:Nat}
def Hu{Q:Uu}(hd:(d==sysModules)=false)(hm:f7 s.heap d es ep)
  (hQ:Q (.ref s.heap.objs.size) { s with heap:=s.heap.push { cls:=.type "dict_keyiterator",data:=.fields #[.ref d,.int 0 0,.int es.size 0,.int ep 0] } }):wpAny (model prog w) A (pyIter (.ref d)) Q E s:=by
 let⟨o,ho,hc,sY⟩:=id hm;let hT:=hm.ty;refine wpAny_pyIter_slot hT F.slot_dict_iter (tR F.slot_dict_iter hT F.entry_dict_iter ?_ (F.args_dict_iter_1 _));unfold Builtin.«dict.__iter__»;refine ax ?_;unfold Builtin.Dict.dictSlotNone;refine ax (wpAny_notOrdered_dict hT ?_);show wpAny _ _ (pure (Value.ref d)) _ _ s;refine aS ?_;show wpAny _ _ (Builtin.Dict.showsAll d >>= _) _ _ s;unfold Builtin.Dict.showsAll;rw[if_neg (by rw[hd];exact aL)];refine ax (aS ?_);refine ax (ub ho sY ?_);refine ax (oP ho sY ?_);refine ax (ua (aS ⟨_,rfl, "dict_keyiterator",_,⟨_,eO _ rfl,rfl⟩,oQ.lookup,?_⟩));simpa[rawInt]using hQ
def Hv{e:DictEntry}{Q:Option Value→Shared→Prop}(hit:s.heap.IsKeyIter it d i es.size ep)(hm:f7 s.heap d es ep)(hx:es[i]?=some e)
  (hQ:∀h',h'.IsKeyIter it d (i+1) es.size ep→Heap.SameBut it s.heap h'→Q (some e.key) { s with heap:=h' }):wpAny (model prog w) A (pyNext (.ref it)) Q E s:=by
 let⟨o,ho,hc,hd⟩:=id hit;let⟨od,pC,fK,pD⟩:=id hm;unfold pyNext;refine ax (wpAny_attempt (wpAny_callSpecial?_slot (name:=Str.ofString "__next__") hit.typeIs oQ (tR oQ hit.typeIs EK ?_ (EL _))));refine ax (aS ?_);refine ax ?_;refine ax ?_
 (first|refine ax (uc hit.typeIs (aS ?_))|refine ax (uf hit.typeIs (aS ?_)));refine ax (wpAny_fieldsOf ho hd ?_)
 let xg:Builtin.Dict_items.ownsTuple "dict_keyiterator" = false:=by decide +kernel
 simp only[xg,Bool.false_eq_true,if_false];show wpAny _ _ (if (Value.ref d==Value.none)=true then _ else _) _ _ s;rw[if_neg (show ¬((Value.ref d==Value.none)=true)from aL)];refine ax (aS ?_);refine ax (ub pC pD ?_);rw[if_neg (by simp)];refine ax (aS ?_);refine ax (oP pC pD ?_);rw[if_neg (by simp)];refine aS ?_;let aW:i<es.size:=(ER.mp hx).1;let iA:es[i]=e:=(ER.mp hx).2;simp only[show ¬((i:Int)<0)from by omega,if_false,Int.toNat_natCast,Array.getElem?_eq_getElem aW];refine ax ?_
 (first|refine ax (uc hit.typeIs (aS ?_))|refine ax (uf hit.typeIs (aS ?_)));refine ax (wpAny_isOneOf_keyiter hit.typeIs ?_)
 show wpAny _ _ (setField (.ref it) 1 (rawInt ((i:Int)+1)) >>= _) _ _ s;refine ax (wpAny_setField ho hd (by simp) ?_);let sZ:(s.heap.update it (Obj.mapFields (·.setIfInBounds 1 (rawInt ((i:Int)+1))))).IsKeyIter it d (i+1) es.size ep:=⟨_,Heap.get?_update_self _ ho (Obj.isFreed_of_fields (Obj.data_mapFields hd _)),(Obj.cls_mapFields ..).trans hc,by rw[Obj.data_mapFields hd];simp[rawInt]⟩;refine ax (k0 ?_);refine ax (wpAny_isOneOf_keyiter (s:={ s with heap:=s.heap.update it (Obj.mapFields (·.setIfInBounds 1 (rawInt ((i:Int)+1)))) }) sZ.typeIs ?_);show wpAny _ _ (pure es[i].key) _ _ _;rw[iA];exact aS (aS ⟨_,rfl,aS (hQ _ sZ (Heap.SameBut.update ..))⟩)
def HV{Q:Option Value→Shared→Prop}(hh:A.handled=none)(hit:s.heap.IsKeyIter it d i es.size ep)(hm:f7 s.heap d es ep)(hx:es.size≤i)
  (hQ:∀h',Heap.ExtBut it s.heap h'→Q none { s with heap:=h' }):wpAny (model prog w) A (pyNext (.ref it)) Q E s:=by
 let⟨o,ho,hc,hd⟩:=id hit;let⟨od,pC,fK,pD⟩:=id hm;unfold pyNext;refine ax (wpAny_attempt (wpAny_callSpecial?_slot (name:=Str.ofString "__next__") hit.typeIs oQ (tR oQ hit.typeIs EK ?_ (EL _))));refine ax (aS ?_);refine ax ?_;refine ax ?_
 (first|refine ax (uc hit.typeIs (aS ?_))|refine ax (uf hit.typeIs (aS ?_)));refine ax (wpAny_fieldsOf ho hd ?_)
 let xg:Builtin.Dict_items.ownsTuple "dict_keyiterator" = false:=by decide +kernel
 simp only[xg,Bool.false_eq_true,if_false];show wpAny _ _ (if (Value.ref d==Value.none)=true then _ else _) _ _ s;rw[if_neg (show ¬((Value.ref d==Value.none)=true)from aL)];refine ax (aS ?_);refine ax (ub pC pD ?_);rw[if_neg (by simp)];refine ax (aS ?_);refine ax (oP pC pD ?_);rw[if_neg (by simp)];refine aS ?_;simp only[show ¬((i:Int)<0)from by omega,if_false,Int.toNat_natCast,Array.getElem?_eq_none hx];refine ax ?_
 (first|refine ax (uc hit.typeIs (aS ?_))|refine ax (uf hit.typeIs (aS ?_)));show wpAny _ _ (setField (.ref it) 0 .none >>= _) _ _ s
 refine ax (wpAny_setField ho hd (by simp) ?_);show wpAny _ _ (newExc (.type "StopIteration") [] >>= _) _ _ _;refine ax ?_;simp only[newExc,newTuple];refine ax (ua ?_ (by size_fits));refine ax (m:=firstArgMember _ _) (wpAny_of_eq (a:=Value.none) (by first|rfl | (simp only[firstArgMember];rfl)) ?_);refine ua ?_ (by size_fits);simp only[raiseNew];refine ax (wpAny_handled ?_);rw[show A.in1.handled=none from hh];refine ax (aS (wpAny_throw ?_));refine ax (wpAny_isInstance (T := "StopIteration") (b:=true) ⟨_,eO _ rfl,rfl⟩ isSubtype_stop ?_);exact aS (hQ _ (((Heap.SameBut.update ..).extBut.push _).push _))
def Hh(hh:A.handled=none)(I d:Addr)(dD:d≠I)(es:Array DictEntry)(ep:Nat) :
  Walks prog w A I [I,d] [I] es.size (λi v=>∃e,es[i]?=some e∧v=e.key) (λi h=>h.IsKeyIter I d i es.size ep∧f7 h d es ep) where
 sub:=λb hb=>by
  let e:b=I:=by simpa using hb
  rw[e];exact bC
 frame:=λ_ _ _ st hk=>⟨st.1.at λo e=>hk I bC o e,st.2.at λo e=>hk d (bP _ bC) o e⟩
 item:=λi s Q E hi st hQ=>Hv st.1 st.2 (e:=es[i]) (by simp[hi]) λh' sZ m7=>hQ _ h' s.toks ⟨es[i],by simp[hi],rfl⟩ ⟨sZ,st.2.at λo e=>m7.extBut d o dD e⟩ λb o hb e=>m7.extBut b o (λz=>hb (by rw[z];exact bC)) e
 done:=λs Q E st hQ=>HV hh st.1 st.2 (aK _) λh' Q6=>hQ h' s.toks λb o hb e=>Q6 b o (λz=>hb (by rw[z];exact bC)) e
 self:=λ_ _ _ _ st hQ=>wpAny_pyIter_keyiter st.1 hQ
def HW(lo:(d==sysModules)=false):PySem.W.KdlSrc prog w "dict" d d es.size (λi v=>∃e,es[i]?=some e∧v=e.key) (λh=>f7 h d es ep) where
 type:=λ_ hm=>hm.ty
 there:=λ_ hm=>⟨hm.lt,hm.lt⟩
 keep:=λ_ _ hm hk=>hm.at λo e=>hk d (.inl rfl) o e
 notList:=by decide +kernel
 notTuple:=by decide +kernel
 hint:=λ_ _ _ _ hm hq=>PySem.W.kdl_hint_dict hm.ty hq
 iter:=λ_ _ hh hm=>⟨_,_,(λ_ _ hq=>Hu lo hm hq),Hh hh _ d (cR hm.lt) es ep,⟨⟨_,eO _ rfl,rfl,rfl⟩,hm.at λo e=>cJ _ e⟩⟩
end
def nS(H:Hp):List (List Key)→List Addr→Prop:=Paired λk b=>H b=some (.tup (k.map kV))
section
variable {X:Cx}
theorem zG:∀(bs:List Addr),Vals (bs.map V.ref) (bs.map Value.ref)
 |[]=>.nil
 |_::r=>.cons rfl (zG r)
theorem Bx{H:Hp}:∀{ae:List (List Key×V)}{xs:List (List Key×Addr×Value)},Paired (λ(p:List Key×V) (q:List Key×Addr×Value)=>p.1=q.1∧H q.2.1=some (.tup (p.1.map kV))∧RelV p.2 q.2.2) ae xs→nS H (ae.map (·.1)) (xs.map (·.2.1))
 |_,_,.nil=>.nil
 |_,_,.cons r t=>.cons r.2.1 (Bx t)
def G6(hc:X.calm=true):f6 X (.type "list") (λxs H Q=>∃d ae,xs=[.ref d]∧H d=some (.dT ae)∧∀l bs,H l=none→nS H (ae.map (·.1)) bs→Q (.ref l) (upd H l (.lst (bs.map V.ref)))):=by
 intro pins s σ H xs us Q I r h;let⟨d,ae,rfl,hd,q⟩:=h;let⟨u,rfl,rx⟩:=vals1 r;cases rx;let⟨hz,Q7,ys,rel,o,es,ep,ho,hex,sY,eV,yK⟩:=(show bS X.prog X.w H s.heap d (.dT ae)from I.aA d _ hd);let hlen:es.size=ae.length:=by
  let e1:es.toList.length=ys.length:=by rw[eV,dC]
  let e2:=cf rel;simpa[e2]using e1
 refine PySem.W.kdl_call (HW (es:=es) (ep:=ep) Q7) (I.ok.hd hc) ⟨o,ho,hex,sY⟩ (by rw[hlen];exact hz) λh' tk mC c' kp e mB=>?_;let ka:=Bx rel;let hv:mC.toList=(ys.map (·.2.1)).map Value.ref:=by
  refine List.ext_getElem? λj=>?_;rw[gU,dN];cases ej:ys[j]? with
  |none =>
   have:ys.length≤j:=EV.mp ej;let e1:es.size=ys.length:=by rw[hlen,cf rel]
   let e3:mC.size=es.size:=mB.1;exact EV.mpr (by rw[Array.length_toList];omega)
  |some y =>
   let hj:j<ys.length:=(bQ.mp ej).1;let e1:es.size=ys.length:=by rw[hlen,cf rel]
   let e3:mC.size=es.size:=mB.1;let Fh:j<mC.size:=by omega
   let⟨en,Q8,hk⟩:=mB.2 j mC[j] (by simp[Fh]);let Eu:es[j]?=some (entryOfKey (tupleKind (bJ X.prog X.w)) y):=by rw[←t7,eV,dN,ej];rfl
   rw[Q8]at Eu;cases Eu;rw[t7,Array.getElem?_eq_getElem Fh,hk];rfl
 refine⟨.ref s.heap.objs.size,upd H s.heap.objs.size (.lst ((ys.map (·.2.1)).map V.ref)),I.laid kp (aK _) ?_,rfl,q _ _ (I.aA.fresh (aK _)) ka⟩;refine(show bS X.prog X.w _ h' _ (.lst ((ys.map (·.2.1)).map V.ref)) from⟨?_,mC.toList,c',?_,?_⟩)
 ·rw[dC,dC,←cf rel];exact hz
 ·rw[hv];exact zG _
 ·rw[Array.toArray_toList];exact e
abbrev Ew(K:Uw)(n:Nat)(t:fL):TG:=λv σ H Q=>∃a xs,v=.ref a∧bf K H a xs∧xs.length=n∧t xs σ H Q
def MF{es:U2}{k:Nat}{pos:Pos}{t:fL}{n:Nat}(hc:X.calm=true)(h:mY X es t)
  (hn:(assignEach es X.env).length=n:=by rfl) (mZ:(assignEach es X.env).findIdx? (·.1)=none:=by rfl):PG X (.Tuple es k pos) (Ew X.K n t):=by
 intro pins s σ H v u Q I r hw;let⟨a,xs,e1,hq,hl,hw⟩:=hw;subst e1;cases r;let⟨its,rv,pl,hz⟩:=I.list hq;rw[assign_Tuple];refine ax (tU ?_);unfold unpack;let hlen:(assignEach es X.env).length=its.toArray.size:=by rw[hn,←hl,rv.length];simp
 rw[hlen,mZ];refine ax (k0 (PySem.W.kun_itemsOf (I.ok.hd hc) pl.isList λh' hx=>?_));let I1:Inv X pins σ H { s with heap:=h' }:=I.kept (t':=s.toks) λb o e=>hx b o (cR (bu e)) e;exact h pins _ σ H xs _ Q I1 (by simpa using rv) hw
mutual
inductive Dn (K:Uw)(H:Hp):V→PyData→Prop
 |non:Dn K H .non .none
 |bl (b:Bool):Dn K H (.bl b) (.bool b)
 |int (i:Int):Dn K H (.int i) (.int i)
 |str (x:Str):Dn K H (.str x) (.str x)
 |lst {a:Addr}{xs:List V}{ds:List PyData}:bf K H a xs→a7 K H xs ds→Dn K H (.ref a) (.list ds)
 |tup {a:Addr}{xs:List V}{ds:List PyData}:aQ K H a xs→a7 K H xs ds→Dn K H (.ref a) (.tuple ds)
inductive a7 (K:Uw)(H:Hp):List V→List PyData→Prop
 |nil:a7 K H [] []
 |cons {v:V}{d:PyData}{vs:List V}{ds:List PyData}:Dn K H v d→a7 K H vs ds→a7 K H (v::vs) (d::ds)
end
abbrev dV:V→PyData
 |.non=>.none
 |.bl b=>.bool b
 |.int i=>.int i
 |.str x=>.str x
 |_=>.none
def Inv.By{pins:Ux}{σ:St}{H:Hp}{s:Shared}{a:Addr}{xs ys:List V}(I:Inv X pins σ H s)(h:bf X.K H a xs)(h':aQ X.K H a ys):False:=by
 let⟨_,_,⟨o,n,e1,e2,_⟩,_⟩:=I.list h;let⟨_,_,⟨o',k1,k2,_⟩,_⟩:=I.tuple h';rw[e1]at k1;cases k1;rw[e2]at k2;exact absurd k2 (by simp)
mutual
theorem Dn.unique{pins:Ux}{σ:St}{H:Hp}{s:Shared}(I:Inv X pins σ H s):∀{v:V}{d d':PyData},Dn X.K H v d→Dn X.K H v d'→d=d'
 |_,_,_,.non,h=>by cases h;rfl
 |_,_,_,.bl _,h=>by cases h;rfl
 |_,_,_,.int _,h=>by cases h;rfl
 |_,_,_,.str _,h=>by cases h;rfl
 |_,_,_,.lst hq hs,h=>by
  cases h with
  |lst kq ks=>cases I.qL hq kq;rw[a7.unique I hs ks]
  |tup kq ks=>exact(I.By hq kq).elim
 |_,_,_,.tup hq hs,h=>by
  cases h with
  |tup kq ks=>cases I.vx hq kq;rw[a7.unique I hs ks]
  |lst kq ks=>exact(I.By kq hq).elim
theorem a7.unique{pins:Ux}{σ:St}{H:Hp}{s:Shared}(I:Inv X pins σ H s):∀{vs:List V}{ds i5:List PyData},a7 X.K H vs ds→a7 X.K H vs i5→ds=i5
 |_,_,_,.nil,h=>by cases h;rfl
 |_,_,_,.cons h t,k=>by
  cases k with
  |cons h' t'=>rw[Dn.unique I h h',a7.unique I t t']
end
mutual
theorem Dn.refl{K:Uw}{H:Hp}:∀{v:V}{d:PyData},Dn K H v d→PyData.eqv d d=true
 |_,_,.non=>by simp[PyData.eqv]
 |_,_,.bl _=>by simp[PyData.eqv]
 |_,_,.int _=>by simp[PyData.eqv]
 |_,_,.str _=>by simp[PyData.eqv]
 |_,_,.lst _ hs=>by simp only[PyData.eqv];exact a7.refl hs
 |_,_,.tup _ hs=>by simp only[PyData.eqv];exact a7.refl hs
theorem a7.refl{K:Uw}{H:Hp}:∀{vs:List V}{ds:List PyData},a7 K H vs ds→PyData.eqvAll ds ds=true
 |_,_,.nil=>by simp[PyData.eqvAll]
 |_,_,.cons h t=>by rw[PyData.eqvAll,Dn.refl h,a7.refl t];rfl
end
theorem a7.length{K:Uw}{H:Hp}:∀{vs:List V}{ds:List PyData},a7 K H vs ds→vs.length=ds.length
 |_,_,.nil=>rfl
 |_,_,.cons _ t=>by simp[a7.length t]
mutual
theorem Dn.kQ{pins:Ux}{σ:St}{H:Hp}{s:Shared}(I:Inv X pins σ H s):∀{v:V}{d:PyData},Dn X.K H v d→∀{v':V}{d':PyData},Dn X.K H v' d'→∀{u u':Value},RelV v u→RelV v' u'→∀{A:Around},A.units+min d.depth d'.depth<cLine→SeqAt.EqAt A s u u' (PyData.eqv d d')
 |_,_,.non,_,_,h',_,_,r,r',A,hu=>by
  cases (show _=Value.none from r);cases h' with
  |non=>cases (show _=Value.none from r');exact oH _
  |bl y=>cases (show _=Value.bool y from r');exact SeqAt.EqAt.none_bool y
  |int y=>let⟨t,e⟩:=(show ∃t,_=Value.int y t from r');subst e;exact xU y t
  |str y=>let⟨t,e⟩:=(show ∃t,_=Value.str y t from r');subst e;exact xV y t
  |@lst a xs ds q hs=>cases (show _=Value.ref a from r');let⟨its,rv,pl,_⟩:=I.list q;exact SeqAt.EqAt.none_list pl.isList (bU hu)
  |@tup a xs ds q hs=>cases (show _=Value.ref a from r');let⟨its,rv,pl,_⟩:=I.tuple q;exact SeqAt.EqAt.none_tuple pl (bU hu)
 |_,_,.bl x,_,_,h',_,_,r,r',A,hu=>by
  cases (show _=Value.bool x from r);cases h' with
  |non=>cases (show _=Value.none from r');exact SeqAt.EqAt.bool_none x
  |bl y=>cases (show _=Value.bool y from r');exact SeqAt.EqAt.bool_bool x y
  |int y=>let⟨t,e⟩:=(show ∃t,_=Value.int y t from r');subst e;exact SeqAt.EqAt.bool_int x y t
  |str y=>let⟨t,e⟩:=(show ∃t,_=Value.str y t from r');subst e;exact SeqAt.EqAt.bool_str x y t
  |@lst a xs ds q hs=>cases (show _=Value.ref a from r');let⟨its,rv,pl,_⟩:=I.list q;exact SeqAt.EqAt.bool_list x pl.isList (bU hu)
  |@tup a xs ds q hs=>cases (show _=Value.ref a from r');let⟨its,rv,pl,_⟩:=I.tuple q;exact SeqAt.EqAt.bool_tuple x pl (bU hu)
 |_,_,.int x,_,_,h',_,_,r,r',A,hu=>by
  let⟨tx,ex⟩:=(show ∃t,_=Value.int x t from r);subst ex;cases h' with
  |non=>cases (show _=Value.none from r');exact xR x tx
  |bl y=>cases (show _=Value.bool y from r');exact SeqAt.EqAt.int_bool x tx y
  |int y=>let⟨t,e⟩:=(show ∃t,_=Value.int y t from r');subst e;exact SeqAt.EqAt.int_int x tx y t
  |str y=>let⟨t,e⟩:=(show ∃t,_=Value.str y t from r');subst e;exact xQ x tx y t
  |@lst a xs ds q hs=>cases (show _=Value.ref a from r');let⟨its,rv,pl,_⟩:=I.list q;exact SeqAt.EqAt.int_list x tx pl.isList (bU hu)
  |@tup a xs ds q hs=>cases (show _=Value.ref a from r');let⟨its,rv,pl,_⟩:=I.tuple q;exact SeqAt.EqAt.int_tuple x tx pl (bU hu)
 |_,_,.str x,_,_,h',_,_,r,r',A,hu=>by
  let⟨tx,ex⟩:=(show ∃t,_=Value.str x t from r);subst ex;cases h' with
  |non=>cases (show _=Value.none from r');exact xT x tx
  |bl y=>cases (show _=Value.bool y from r');exact SeqAt.EqAt.str_bool x tx y
  |int y=>let⟨t,e⟩:=(show ∃t,_=Value.int y t from r');subst e;exact xS x tx y t
  |str y=>let⟨t,e⟩:=(show ∃t,_=Value.str y t from r');subst e;exact SeqAt.EqAt.str_str x tx y t
  |@lst a xs ds q hs=>cases (show _=Value.ref a from r');let⟨its,rv,pl,_⟩:=I.list q;exact SeqAt.EqAt.str_list x tx pl.isList (bU hu)
  |@tup a xs ds q hs=>cases (show _=Value.ref a from r');let⟨its,rv,pl,_⟩:=I.tuple q;exact SeqAt.EqAt.str_tuple x tx pl (bU hu)
 |_,_,.lst (a:=b) hq hs,_,_,h',_,_,r,r',A,hu=>by
  cases (show _=Value.ref b from r);let⟨dU,rb,cq,_⟩:=I.list hq;cases h' with
  |non=>cases (show _=Value.none from r');exact SeqAt.EqAt.list_none cq.isList (bU hu)
  |bl y=>cases (show _=Value.bool y from r');exact SeqAt.EqAt.list_bool y cq.isList (bU hu)
  |int y=>let⟨t,e⟩:=(show ∃t,_=Value.int y t from r');subst e;exact SeqAt.EqAt.list_int y t cq.isList (bU hu)
  |str y=>let⟨t,e⟩:=(show ∃t,_=Value.str y t from r');subst e;exact SeqAt.EqAt.list_str y t cq.isList (bU hu)
  |@tup a xs ds q ks=>cases (show _=Value.ref a from r');let⟨its,rv,pl,_⟩:=I.tuple q;exact SeqAt.EqAt.list_tuple cq.isList pl (bU hu)
  |@lst a xs ds q ks =>
   cases (show _=Value.ref a from r');by_cases e:b=a
   ·subst e;cases I.qL hq q;rw[a7.unique I ks hs];simp only[PyData.eqv];rw[a7.refl hs];exact oH _
   ·let⟨its,rv,pl,_⟩:=I.list q;let n1:=rb.length;let n2:=rv.length;let n3:=a7.length hs;let n4:=a7.length ks;simp only[PyData.eqv];let he:∀j (j1:j<dU.toArray.size) (j2:j<its.toArray.size),SeqAt.EqAt A.in1 s dU.toArray[j] its.toArray[j] (SeqAt.pairEq _ _ j):=λj j1 j2=>by
     let z:=a7.kQ I hs ks rb rv (A:=A.in1) (ug hu) j (by simpa using j1) (by simpa using j2);simpa using z
    refine SeqAt.EqAt.of_refs e ?_;by_cases hsz:dU.toArray.size=its.toArray.size
    ·rw[←SeqAt.eqvAll_same_length (by simp at hsz;omega),show List.length _=dU.toArray.size by simp;omega];exact SeqAt.RcAt.lists cq.isList pl.isList hsz (bU hu) he
    ·rw[SeqAt.eqvAll_other_length (by simp at hsz;omega)];exact SeqAt.RcAt.lists_lengths cq.isList pl.isList (by simpa using hsz) (bU hu)
 |_,_,.tup (a:=b) hq hs,_,_,h',_,_,r,r',A,hu=>by
  cases (show _=Value.ref b from r);let⟨dU,rb,cq,_⟩:=I.tuple hq;cases h' with
  |non=>cases (show _=Value.none from r');exact SeqAt.EqAt.tuple_none cq (bU hu)
  |bl y=>cases (show _=Value.bool y from r');exact SeqAt.EqAt.tuple_bool y cq (bU hu)
  |int y=>let⟨t,e⟩:=(show ∃t,_=Value.int y t from r');subst e;exact SeqAt.EqAt.tuple_int y t cq (bU hu)
  |str y=>let⟨t,e⟩:=(show ∃t,_=Value.str y t from r');subst e;exact SeqAt.EqAt.tuple_str y t cq (bU hu)
  |@lst a xs ds q ks=>cases (show _=Value.ref a from r');let⟨its,rv,pl,_⟩:=I.list q;exact SeqAt.EqAt.tuple_list cq pl.isList (bU hu)
  |@tup a xs ds q ks =>
   cases (show _=Value.ref a from r');by_cases e:b=a
   ·subst e;cases I.vx hq q;rw[a7.unique I ks hs];simp only[PyData.eqv];rw[a7.refl hs];exact oH _
   ·let⟨its,rv,pl,_⟩:=I.tuple q;let n1:=rb.length;let n2:=rv.length;let n3:=a7.length hs;let n4:=a7.length ks;simp only[PyData.eqv];let he:∀j (j1:j<dU.toArray.size) (j2:j<its.toArray.size),SeqAt.EqAt A.in1 s dU.toArray[j] its.toArray[j] (SeqAt.pairEq _ _ j):=λj j1 j2=>by
     let z:=a7.kQ I hs ks rb rv (A:=A.in1) (ug hu) j (by simpa using j1) (by simpa using j2);simpa using z
    refine SeqAt.EqAt.of_refs e ?_;rw[←SeqAt.eqvAll_eq,←n3,←n4,n1,n2];let z:=SeqAt.RcAt.tuples cq pl (bU hu) he;simpa using z
theorem a7.kQ{pins:Ux}{σ:St}{H:Hp}{s:Shared}(I:Inv X pins σ H s):∀{vs:List V}{ds:List PyData},a7 X.K H vs ds→∀{Fm:List V}{i5:List PyData},a7 X.K H Fm i5→∀{us yL:Uy},Vals vs us→Vals Fm yL→∀{A:Around},A.units+min (PyData.depthAll ds) (PyData.depthAll i5)<cLine →
  ∀j (h1:j<us.length) (h2:j<yL.length),SeqAt.EqAt A s us[j] yL[j] (SeqAt.pairEq ds i5 j)
 |_,_,.nil=>by
  intro _ _ _ rv _ _ _ j h1 _;cases rv;exact absurd h1 (oR _)
 |_,_,.cons h t=>by
  intro d' _ _ rv Fn A hu j h1 h2;cases d' with
  |nil=>cases Fn;exact absurd h2 (oR _)
  |cons h' t' =>
   cases rv with
   |cons r q =>
    cases Fn with
    |cons r' q' =>
     cases j with
     |zero=>exact Dn.kQ I h h' r r' (SeqAt.room_head hu)
     |succ j=>exact a7.kQ I t t' q q' (SeqAt.room_tail hu) j (Nat.lt_of_succ_lt_succ h1) (Nat.lt_of_succ_lt_succ h2)
end
inductive kR:PyData→PyData→Prop
 |lst (xs ys:List PyData):kR (.list xs) (.list ys)
 |tup (xs ys:List PyData):kR (.tuple xs) (.tuple ys)
 |non:kR .none .none
abbrev tf(K:Uw):R2:=λx y H Q=>∃dx dy,Dn K H x dx∧Dn K H y dy∧kR dx dy∧min dx.depth dy.depth≤60∧Q (.bl (PyData.eqv dx dy)) H
abbrev xh(K:Uw):R2:=λx y H Q=>∃dx dy,Dn K H x dx∧Dn K H y dy∧kR dx dy∧min dx.depth dy.depth≤60∧Q (.bl (!PyData.eqv dx dy)) H
def AZ{pins:Ux}{σ:St}{H:Hp}{s:Shared}(I:Inv X pins σ H s){A:Around}{x y:V}{u u':Value}{dx dy:PyData}(hx:Dn X.K H x dx)(hy:Dn X.K H y dy)(l:kR dx dy)(rx:RelV x u)(ry:RelV y u')(hu:A.units+min dx.depth dy.depth<cLine) :
  SeqAt.RcAt A s u u' (PyData.eqv dx dy)∧SeqAt.RcNeAt A s u u' (!PyData.eqv dx dy):=by
 cases l with
 |non =>
  cases hx;cases hy;cases (show u=Value.none from rx);cases (show u'=Value.none from ry);exact⟨SeqAt.RcAt.none_none,SeqAt.RcNeAt.none_none⟩
 |lst ds es =>
  cases hx with
  |@lst b _ _ hq hs =>
  cases hy with
  |@lst a _ _ q ks =>
   cases (show u=Value.ref b from rx);cases (show u'=Value.ref a from ry);let⟨dU,rb,cq,_⟩:=I.list hq;let⟨its,rv,pl,_⟩:=I.list q;let n1:=rb.length;let n2:=rv.length;let n3:=a7.length hs;let n4:=a7.length ks;simp only[PyData.eqv];let he:∀j (j1:j<dU.toArray.size) (j2:j<its.toArray.size),SeqAt.EqAt A.in1 s dU.toArray[j] its.toArray[j] (SeqAt.pairEq ds es j):=λj j1 j2=>by
    let z:=a7.kQ I hs ks rb rv (A:=A.in1) (ug hu) j (by simpa using j1) (by simpa using j2);simpa using z
   by_cases hsz:dU.toArray.size=its.toArray.size
   ·let e:ds.length=dU.toArray.size:=by simp;omega
    rw[←SeqAt.eqvAll_same_length (show ds.length=es.length by simp at hsz;omega),e];exact⟨SeqAt.RcAt.lists cq.isList pl.isList hsz (bU hu) he,SeqAt.RcNeAt.lists cq.isList pl.isList hsz (bU hu) he⟩
   ·rw[SeqAt.eqvAll_other_length (show ds.length≠es.length by simp at hsz;omega)];exact⟨SeqAt.RcAt.lists_lengths cq.isList pl.isList (by simpa using hsz) (bU hu),SeqAt.RcNeAt.lists_lengths cq.isList pl.isList (by simpa using hsz) (bU hu)⟩
 |tup ds es =>
  cases hx with
  |@tup b _ _ hq hs =>
  cases hy with
  |@tup a _ _ q ks =>
   cases (show u=Value.ref b from rx);cases (show u'=Value.ref a from ry);let⟨dU,rb,cq,_⟩:=I.tuple hq;let⟨its,rv,pl,_⟩:=I.tuple q;let n1:=rb.length;let n2:=rv.length;let n3:=a7.length hs;let n4:=a7.length ks;simp only[PyData.eqv];let he:∀j (j1:j<dU.toArray.size) (j2:j<its.toArray.size),SeqAt.EqAt A.in1 s dU.toArray[j] its.toArray[j] (SeqAt.pairEq ds es j):=λj j1 j2=>by
    let z:=a7.kQ I hs ks rb rv (A:=A.in1) (ug hu) j (by simpa using j1) (by simpa using j2);simpa using z
   let z1:=SeqAt.RcAt.tuples cq pl (bU hu) he;let z2:=SeqAt.RcNeAt.tuples cq pl (bU hu) he;rw[←SeqAt.eqvAll_eq ds es,←n3,←n4,n1,n2];exact⟨by simpa using z1,by simpa using z2⟩
def CM(hu:X.A.units+64<cLine):a8 X (compareOp .Eq) (tf X.K):=by
 intro pins s σ H x y v u Q I rx ry h;let⟨dx,dy,hx,hy,l,hd,q⟩:=h;exact(AZ I hx hy l rx ry (A:=X.A) (by omega)).1 X.prog X.w X.xe _ ⟨.bl _,H,I,rfl,q⟩
def MG(hu:X.A.units+64<cLine):a8 X (compareOp .NotEq) (xh X.K):=by
 intro pins s σ H x y v u Q I rx ry h;let⟨dx,dy,hx,hy,l,hd,q⟩:=h;exact(AZ I hx hy l rx ry (A:=X.A) (by omega)).2 X.prog X.w X.xe _ ⟨.bl _,H,I,rfl,q⟩
end
def Tr(D:Addr)(H H':Hp):Prop:=∀b o,b≠D→H b=some o→H' b=some o
section
variable {X:Cx}{K:Uw}
def nL(h:X.K=K):iy X (lu K):=by subst h;exact Mx
def Hw(h:X.K=K):a8 X (compareOp .In) (yx K false):=by subst h;exact HM
def HX(h:X.K=K):f6 X (.builtin "len") (λxs H Q=>∃x n,xs=[x]∧wY K x H n∧Q (.int n) H):=by subst h;exact IX
def HY{a:Expr}{ta:TE}(h:X.K=K)(ha:PE X a ta)(he:∀whole,isTrue a X.env whole=(do let v ←whole;standAt a.pos;holding [v] (truthy v))):PT X a (λσ H Q=>ta σ H λx H'=>∃k,sH K x H' k∧Q k H'):=by subst h;exact IW ha he
def A1{tg l:Expr}{tl:TE}(h:X.K=K)(hl:PE X l tl):PI X tg l (rN K tl):=by subst h;exact Kg hl
end
end L2
namespace My
open PySem PySem.Spec PyProof.Rows L2
theorem aB.none{H H':Hp}{p:Addr}(s:aB H H')(h:H' p=none):H p=none:=s.free h
def Qk{σ:L2.St}{H:Hp}{A B:Hp→Prop}(h:A H):sU σ H λb H3=>if b=true then A H3 else B H3:=by
 show if true=true then A H else B H;exact Qi h
theorem Paired.at{α β:Type}{F:α→β→Prop}:∀{l:List α}{m:List β},Paired F l m→∀{i:Nat}{b:β},m[i]?=some b→∃a,l[i]?=some a∧F a b
 |_,_,.nil,_,_,h=>by simp at h
 |_,_,.cons r t,0,_,h=>by simp at h;subst h;exact⟨_,rfl,r⟩
 |_,_,.cons r t,i+1,b,h=>by
  let⟨a,e,q⟩:=Paired.at t (i:=i) (b:=b) (by simpa using h);exact⟨a,by simpa using e,q⟩
inductive Rw where
 |reckon (x s:Str) (a b:Key)|copy (x:Str) (a:Key)|say (a:Key)|go (n:Int)|part (a:Key) (n:Int)|fin
abbrev Rw.vs:Rw→List V
 |.reckon x s a b=>[.str "reckon",.str x,.str s,kV a,kV b]
 |.copy x a=>[.str "copy",.str x,kV a]
 |.say a=>[.str "say",kV a]
 |.go n=>[.str "go",.int n]
 |.part a n=>[.str "part",kV a,.int n]
 |.fin=>[.str "end"]
abbrev Rw.word:Rw→Str
 |.reckon .. => "reckon" |.copy .. => "copy" |.say _ => "say" |.go _ => "go" |.part .. => "part" |.fin => "end"
abbrev Rw.sets:Rw→V
 |.reckon x _ _ _=>.str x|.copy x _=>.str x|_=>.non
abbrev Rw.rk:Rw→Option (List Key)
 |.reckon _ s a b=>some [.inr s,a,b]|_=>none
def n1:¬(("copy" : Str) = "reckon"):=by decide +kernel
def n2:¬(("say" : Str) = "reckon"):=by decide +kernel
def n3:¬(("go" : Str) = "reckon"):=by decide +kernel
def n4:¬(("part" : Str) = "reckon"):=by decide +kernel
structure Df (K:Uw)(mg:Str→Option Value)(x:Str)(st:Stmt)(ps:U3)(f:Addr)(fd:FuncData):Prop where
 mg:mg x=some (.ref f)
 fn:m5 K x x st f fd
 bd:Binds K fd ps []
end My
namespace L2
open PySem PySem.Spec PyProof.Rows
abbrev uI(z:Str):It:=⟨λi _=>i<z.cps.size,λi H x H'=>H'=H∧∃c,z.cps[i]?=some c∧x=.str ⟨#[c]⟩,λi _=>z.cps.size≤i⟩
def Je {P:Program}{w:World}{K:Uw}{tg:Expr} (it:Addr) (x:Str) (t:Tok) (ty:String) (iz:ty = "str_ascii_iterator" ∨ ty = "str_iterator"):Turn P w K tg (uI x) [it] it (λi h=>h.IsStrIter it ty x t i) where
 mem:=by simp
 obj:=λi h st b hb=>by
  let e:b=it:=by simpa using hb
  subst e;let⟨o,e,c,d⟩:=st;exact⟨o,e,λv z=>by rw[d]at z;cases z⟩
 keep:=λi h h' st k=>by let⟨o,e,r⟩:=st;exact⟨o,k it (by simp) o e,r⟩
 item:=by
  intro X hP hw hK hc i pins s σ H E I hf st hg;subst hP hw hK;let hi:i<x.cps.size:=hg;let⟨f0,f1,f2,f3,f4,f5⟩:=hf it (by simp);let fin:∀h',h'.IsStrIter it ty x t (i+1)→Heap.SameBut it s.heap h'→∃u,some (Value.str ⟨#[x.cps[i]]⟩ s.toks)=some u ∧
    wpAny (model X.prog X.w) X.A (letOwnedTupleGo tg (.ref it) u) (λ_ s2=>∃y H',Inv X pins σ H' s2∧RelV y u∧(uI x).gW i H y H'∧s2.heap.IsStrIter it ty x t (i+1)∧∀b∈[it],H' b=none) E { s with heap:=h',toks:=s.toks+1 }:=λh' eU sb=>by
   let I1:Inv X pins σ H { s with heap:=h',toks:=s.toks+1 }:=I.turned (λb o hb e=>(sb.2 b hb).trans e) f0 f1 f3 f4 f5;let⟨o,e,c,d⟩:=id eU;refine⟨_,rfl,nY (s:={ s with heap:=h',toks:=s.toks+1 }) e c d (by rcases iz with q|q<;>(rw[q];decide)) ⟨.str ⟨#[x.cps[i]]⟩,H,I1,⟨_,rfl⟩,⟨rfl,x.cps[i],by simp[hi],rfl⟩,eU,λb hb=>(hf b hb).1⟩⟩
  rcases iz with q|q
  ·subst q;exact wpAny_pyNext_ascii_item st (c:=x.cps[i]) (by simp[hi]) fin
  ·subst q;exact wpAny_pyNext_wide_item st (c:=x.cps[i]) (by simp[hi]) fin
 done:=by
  intro X hP hw hK hc i pins s σ H E I hf st hg;subst hP hw hK;let hi:x.cps.size≤i:=hg;let⟨f0,f1,f2,f3,f4,f5⟩:=hf it (by simp);let fin:∀h',Heap.ExtBut it s.heap h'→(none:Option Value)=none∧Inv X pins σ H { s with heap:=h' }:=λh' eb=>⟨rfl,I.turned (t':=s.toks) (λb o hb e=>eb b o hb e) f0 f1 f3 f4 f5⟩;rcases iz with q|q
  ·subst q;exact wpAny_pyNext_ascii_end (I.ok.hd hc) st (by simp[hi]) fin
  ·subst q;exact wpAny_pyNext_wide_end (I.ok.hd hc) st (by simp[hi]) fin
 self:=λ_ _ _ _ _ st h=>by
  rcases iz with q|q
  ·subst q;exact wpAny_pyIter_striter_ascii st h
  ·subst q;exact wpAny_pyIter_striter_wide st h
section
variable {X:Cx}{tg:Expr}
def Ex(tl:TE):TI:=λσ H R=>tl σ H λx H1=>∃z,x=.str z∧R (uI z) H1
def MH{l:Expr}{tl:TE}(hl:PE X l tl):PI X tg l (Ex tl):=by
 intro pins s σ H R I h;refine ay (hl pins s σ H _ I h) λv s1 ⟨x,H1,I1,r1,q1⟩=>?_;let⟨z,e,q⟩:=q1;subst e;let⟨t,e⟩:=(show ∃t,v=Value.str z t from r1);subst e;let iz:strIterType z = "str_ascii_iterator" ∨ strIterType z = "str_iterator" := by unfold strIterType;split<;>simp
 refine wpAny_pyIter_strU ?_;refine⟨s1.heap.objs.size,[s1.heap.objs.size],_,_,H1,rfl,I1.kept (t':=s1.toks) λb o e=>cJ _ e,Je s1.heap.objs.size z t _ iz,⟨_,eO _ rfl,rfl,rfl⟩,λb hb=>?_,q⟩;let e:b=s1.heap.objs.size:=by simpa using hb
 subst e;exact I1.my (aK _) (I1.aA.fresh (aK _))
def Jf{prog:Program}{w:World}{A:Around}{E:Uu}{s:Shared}{t b:Addr}{ws:Uy}{Q:Uu}(ht:IsTup s.heap t ([]:Uy).toArray)(hb:IsTup s.heap b ws.toArray)(h:Q (.ref b) s):wpAny (model prog w) A (binaryOp .Add (.ref t) (.ref b)) Q E s:=by
 let⟨⟨c1,d1,TR,pE⟩,ho,hc,n,hd⟩:=id ht;let⟨⟨c2,d2,TV,lq⟩,iw,jU,n2,hd2⟩:=id hb;simp only at hc hd jU hd2;subst hc hd jU hd2;exact tZ ⟨_,ho,rfl⟩ ⟨_,iw,rfl⟩ x3 seq_tuple_add x4 x5 (x6 _ _) (tuple_addW0 t b ([]:Uy).toArray ws.toArray n n2 d1 d2 pE lq (by simp)) ⟨ho,iw,h⟩
end
section
variable {X:Cx}{pins:Ux}{σ:St}{H:Hp}{s:Shared}{A:Around}{E:Uu}
def nM(H:Hp)(ys:List V)(ps:List (Key×V)):Prop:=Paired (λ(v:V) (kv:Key×V)=>∃a,v=.ref a∧H a=some (.tup [kV kv.1,kv.2])) ys ps
def nM.at{ys:List V}{ps:List (Key×V)}(h:nM H ys ps):∀{i:Nat},i<ys.length→∃a kv,ys[i]?=some (.ref a)∧ps[i]?=some kv∧H a=some (.tup [kV kv.1,kv.2]):=by
 induction h with
 |nil=>intro i hi;exact absurd hi (oR i)
 |@cons v kv ys ps hv t ih =>
  intro i hi;cases i with
  |zero=>let⟨a,rfl,ha⟩:=hv;exact⟨a,kv,rfl,rfl,ha⟩
  |succ i=>exact ih (by simpa using hi)
def nM.put{ys:List V}{ps:List (Key×V)}{d:Addr}{ae Ql:List (Key×V)}(h:nM H ys ps)(hd:H d=some (.dK ae)):nM (upd H d (.dK Ql)) ys ps:=by
 induction h with
 |nil=>exact .nil
 |@cons v kv ys ps hv t ih =>
  let⟨a,rfl,ha⟩:=hv;refine .cons ⟨a,rfl,?_⟩ ih;rw[aD (λz=>by rw[z,hd]at ha;cases ha)];exact ha
end
end L2
set_option maxHeartbeats 4000000
namespace J
open PySem L2
inductive D where
 |non|bl (b:Bool)|int (i:Int)|str (x:Str)|ty (n:String)
 |tup (ds:List D)|lst (ds:List D)|dk (ks:List (Key×D))|dt (ks:List (List Key×D))
noncomputable abbrev Ut:=List D
mutual
abbrev D.bD:D→Bool
 |.tup ds=>D.dJ ds
 |.lst _=>false
 |.dk _=>false
 |.dt _=>false
 |.non=>true
 |.bl _=>true
 |.int _=>true
 |.str _=>true
 |.ty _=>true
abbrev D.dJ:Ut→Bool
 |[]=>true
 |d::ds=>d.bD&&D.dJ ds
end
def uJ(K:Uw)(a:Addr)(xs:List V):Prop:=∃(o:Obj) (its:Array Value) (n:Nat),K.lookup a=some o∧o.cls=.type "list" ∧ o.dict=none∧o.data=.seq its n∧its.size≤sizeLine∧Vals xs its.toList
mutual
inductive Rp (K:Uw)(N:Uv)(H:Hp):V→D→Prop
 |non:Rp K N H .non .non
 |bl (b:Bool):Rp K N H (.bl b) (.bl b)
 |int (i:Int):Rp K N H (.int i) (.int i)
 |str (x:Str):Rp K N H (.str x) (.str x)
 |ty (n:String):Rp K N H (.ty n) (.ty n)
 |tup {a:Addr}{xs:List V}{ds:Ut}:aQ K H a xs→ao K N H xs ds→Rp K N H (.ref a) (.tup ds)
 |lst {a:Addr}{xs:List V}{ds:Ut}:Rd H a (.lst xs)→N a→ao K N H xs ds→Rp K N H (.ref a) (.lst ds)
 |lstK {a:Addr}{xs:List V}{ds:Ut}:uJ K a xs→ao K N H xs ds→Rp K N H (.ref a) (.lst ds)
 |dk {a:Addr}{ae:List (Key×V)}{ks:List (Key×D)}:Rd H a (.dK ae)→N a→ae.map (·.1)=ks.map (·.1)→ao K N H (ae.map (·.2)) (ks.map (·.2))→Rp K N H (.ref a) (.dk ks)
 |dt {a:Addr}{ae:List (List Key×V)}{ks:List (List Key×D)}:Rd H a (.dT ae)→N a→ae.map (·.1)=ks.map (·.1)→ao K N H (ae.map (·.2)) (ks.map (·.2))→Rp K N H (.ref a) (.dt ks)
inductive ao (K:Uw)(N:Uv)(H:Hp):List V→Ut→Prop
 |nil:ao K N H [] []
 |cons {v:V}{d:D}{vs:List V}{ds:Ut}:Rp K N H v d→ao K N H vs ds→ao K N H (v::vs) (d::ds)
end
abbrev fS:HO→Prop
 |.tup _=>True
 |.ck _ (.tup _)=>True
 |_=>False
def Keeps(N:Uv)(H H':Hp):Prop:=∀a o,H a=some o→(N a∨fS o)→H' a=some o
section
variable {K:Uw}{N N':Uv}{H H':Hp}
def Keeps.same(s:aB H H'):Keeps N H H':=λa o e _=>s a o e
def Keeps.sq{a:Addr}{xs:List V}(k:Keeps N H H')(h:aQ K H a xs):aQ K H' a xs:=by
 rcases h with h|h
 ·exact .inl (k _ _ h (.inr trivial))
 ·exact .inr h
def Keeps.rd{a:Addr}{u:HO}(k:Keeps N H H')(n:N a)(h:Rd H a u):Rd H' a u:=by
 rcases h with h|⟨o,h⟩
 ·exact .inl (k _ _ h (.inl n))
 ·exact .inr ⟨o,k _ _ h (.inl n)⟩
def Rp.keep(k:Keeps N H H'){v:V}{d:D}(h:Rp K N H v d):Rp K N H' v d:=Rp.rec (motive_1:=λv d _=>Rp K N H' v d) (motive_2:=λvs ds _=>ao K N H' vs ds) .non .bl .int .str .ty (λh _ r=>.tup (k.sq h) r) (λh n _ r=>.lst (k.rd n h) n r) (λh _ r=>.lstK h r) (λh n e _ r=>.dk (k.rd n h) n e r) (λh n e _ r=>.dt (k.rd n h) n e r) .nil (λ_ _ h r=>.cons h r) h
def ao.keep(k:Keeps N H H'){vs:List V}{ds:Ut}(h:ao K N H vs ds):ao K N H' vs ds:=ao.rec (motive_1:=λv d _=>Rp K N H' v d) (motive_2:=λvs ds _=>ao K N H' vs ds) .non .bl .int .str .ty (λh _ r=>.tup (k.sq h) r) (λh n _ r=>.lst (k.rd n h) n r) (λh _ r=>.lstK h r) (λh n e _ r=>.dk (k.rd n h) n e r) (λh n e _ r=>.dt (k.rd n h) n e r) .nil (λ_ _ h r=>.cons h r) h
theorem Rd.some{a:Addr}{u:HO}(h:Rd H a u):∃o,H a=some o:=by
 rcases h with h|⟨o,h⟩
 ·exact⟨_,h⟩
 ·exact⟨_,h⟩
def Rp.wk(w:∀a,N a→(∃o,H a=some o)→N' a){v:V}{d:D}(h:Rp K N H v d):Rp K N' H v d:=Rp.rec (motive_1:=λv d _=>Rp K N' H v d) (motive_2:=λvs ds _=>ao K N' H vs ds) .non .bl .int .str .ty (λh _ r=>.tup h r) (λh n _ r=>.lst h (w _ n (Rd.some h)) r) (λh _ r=>.lstK h r) (λh n e _ r=>.dk h (w _ n (Rd.some h)) e r) (λh n e _ r=>.dt h (w _ n (Rd.some h)) e r) .nil (λ_ _ h r=>.cons h r) h
def ao.wk(w:∀a,N a→(∃o,H a=some o)→N' a){vs:List V}{ds:Ut}(h:ao K N H vs ds):ao K N' H vs ds:=ao.rec (motive_1:=λv d _=>Rp K N' H v d) (motive_2:=λvs ds _=>ao K N' H vs ds) .non .bl .int .str .ty (λh _ r=>.tup h r) (λh n _ r=>.lst h (w _ n (Rd.some h)) r) (λh _ r=>.lstK h r) (λh n e _ r=>.dk h (w _ n (Rd.some h)) e r) (λh n e _ r=>.dt h (w _ n (Rd.some h)) e r) .nil (λ_ _ h r=>.cons h r) h
def Rp.im{v:V}{d:D}(e:d.bD=true)(h:Rp K N H v d):Rp K N' H v d:=Rp.rec (motive_1:=λv d _=>d.bD=true→Rp K N' H v d) (motive_2:=λvs ds _=>D.dJ ds=true→ao K N' H vs ds) (λ_=>.non) (λb _=>.bl b) (λi _=>.int i) (λx _=>.str x) (λn _=>.ty n) (λh _ r e=>.tup h (r e)) (λ_ _ _ _ e=>by cases e) (λ_ _ _ e=>by cases e) (λ_ _ _ _ _ e=>by cases e) (λ_ _ _ _ _ e=>by cases e) (λ_=>.nil) (λ_ _ h r e=>.cons (h (Bool.and_eq_true_iff.mp e).1) (r (Bool.and_eq_true_iff.mp e).2)) h e
def ao.im{vs:List V}{ds:Ut}(e:D.dJ ds=true)(h:ao K N H vs ds):ao K N' H vs ds:=ao.rec (motive_1:=λv d _=>d.bD=true→Rp K N' H v d) (motive_2:=λvs ds _=>D.dJ ds=true→ao K N' H vs ds) (λ_=>.non) (λb _=>.bl b) (λi _=>.int i) (λx _=>.str x) (λn _=>.ty n) (λh _ r e=>.tup h (r e)) (λ_ _ _ _ e=>by cases e) (λ_ _ _ e=>by cases e) (λ_ _ _ _ _ e=>by cases e) (λ_ _ _ _ _ e=>by cases e) (λ_=>.nil) (λ_ _ h r e=>.cons (h (Bool.and_eq_true_iff.mp e).1) (r (Bool.and_eq_true_iff.mp e).2)) h e
theorem ao.paired:∀{vs:List V}{ds:Ut},ao K N H vs ds→Paired (λd v=>Rp K N H v d) ds vs
 |_,_,.nil=>.nil
 |_,_,.cons h r=>.cons h (ao.paired r)
theorem ao.of:∀{ds:Ut}{vs:List V},Paired (λd v=>Rp K N H v d) ds vs→ao K N H vs ds
 |_,_,.nil=>.nil
 |_,_,.cons h r=>.cons h (ao.of r)
def ao.len{vs:List V}{ds:Ut}(r:ao K N H vs ds):vs.length=ds.length:=(cf r.paired).symm
theorem ao.get:∀{vs:List V}{ds:Ut}{i:Nat}{d:D},ao K N H vs ds→ds[i]?=some d→∃v,vs[i]?=some v∧Rp K N H v d
 |_,_,_,_,.nil,e=>by simp at e
 |_,_,0,_,.cons h _,e=>by simp at e;subst e;exact⟨_,rfl,h⟩
 |_,_,i+1,d,.cons _ r,e=>by
  let⟨v,h1,h2⟩:=ao.get (i:=i) (d:=d) r (by simpa using e);exact⟨v,by simpa using h1,h2⟩
theorem ao.app:∀{vs ws:List V}{ds es:Ut},ao K N H vs ds→ao K N H ws es→ao K N H (vs++ws) (ds++es)
 |_,_,_,_,.nil,s=>s
 |_,_,_,_,.cons h r,s=>.cons h (ao.app r s)
theorem ao.set{v:V}{d:D}(q:Rp K N H v d):∀{vs:List V}{ds:Ut} (i:Nat),ao K N H vs ds→ao K N H (vs.set i v) (ds.set i d)
 |_,_,_,.nil=>.nil
 |_,_,0,.cons _ t=>.cons q t
 |_,_,i+1,.cons h t=>.cons h (ao.set q i t)
theorem ao.take:∀{vs:List V}{ds:Ut} (n:Nat),ao K N H vs ds→ao K N H (vs.take n) (ds.take n)
 |_,_,0,_=>.nil
 |_,_,_+1,.nil=>.nil
 |_,_,n+1,.cons r t=>.cons r (ao.take n t)
theorem ao.drop:∀{vs:List V}{ds:Ut} (n:Nat),ao K N H vs ds→ao K N H (vs.drop n) (ds.drop n)
 |_,_,0,r=>r
 |_,_,_+1,.nil=>.nil
 |_,_,n+1,.cons _ t=>ao.drop n t
def ao.dl{vs:List V}{ds:Ut}(h:ao K N H vs ds):ao K N H vs.dropLast ds.dropLast:=by
 rw[List.dropLast_eq_take,List.dropLast_eq_take,h.len];exact h.take _
theorem ao.rep:∀{vs:List V}{ds:Ut} (n:Nat),ao K N H vs ds→ao K N H (List.replicate n vs).flatten (List.replicate n ds).flatten
 |_,_,0,_=>.nil
 |_,_,n+1,h=>by
  rw[t5,t5,t6,t6];exact h.app (ao.rep n h)
theorem ao.aT{vs:List V}{ds:Ut}{i:Int}{d:D}(r:ao K N H vs ds)(e:L2.aT ds i=some d):∃v,L2.aT vs i=some v∧Rp K N H v d:=by
 unfold L2.aT at e ⊢;rw[r.len];cases q:cM ds.length i with
 |none=>rw[q]at e;cases e
 |some j =>
  rw[q]at e;exact r.get e
end
inductive M where|al|fr|un|bo|bi|rb|nb|ut
 deriving DecidableEq
noncomputable abbrev Ev:=List (Option (M×D))
noncomputable abbrev Us:=Option (M×D)
noncomputable abbrev Ur:=Ut→Us
noncomputable abbrev Uq:=Ev→Us
noncomputable abbrev Up:=Ev→Option Bool
noncomputable abbrev Um:=Ev→Option (List (M×D))
abbrev Cell(K:Uw)(N:Uv)(H:Hp)(p:Addr):D→Prop
 |.lst ds=>∃xs,H p=some (.lst xs)∧ao K N H xs ds
 |.dk ks=>∃ae,H p=some (.dK ae)∧ae.map (·.1)=ks.map (·.1)∧ao K N H (ae.map (·.2)) (ks.map (·.2))
 |.dt ks=>∃ae,H p=some (.dT ae)∧ae.map (·.1)=ks.map (·.1)∧ao K N H (ae.map (·.2)) (ks.map (·.2))
 |_=>False
abbrev NM(H₀:Hp)(O:Uv):M→Uv
 |.al,a=>¬O a
 |.rb,a=>H₀ a=none
 |_,a=>¬O a∧H₀ a=none
def gO(K:Uw)(H₀:Hp)(O:Uv)(H:Hp)(d:D)(v:V):Prop :=
 ∃(p:Addr) (qs:List Addr) (aG:List (Ut)),v=.ref p∧d=.lst (aG.map D.lst)∧O p∧H₀ p=none∧H p=some (.lst (qs.map V.ref))∧qs.Nodup∧(∀q∈qs,O q∧H₀ q=none∧q≠p) ∧
  Paired (λq ds=>∃xs,H q=some (.lst xs)∧ao K (λa=>¬O a∧H₀ a=none) H xs ds) qs aG
def UT(K:Uw)(F:Uv)(H:Hp)(d:D)(v:V):Prop:=(d.bD=true∧Rp K (λ_=>False) H v d)∨∃q,v=.ref q∧F q∧Cell K (λ_=>False) H q d
def cI(K:Uw)(F:Uv)(H:Hp)(d:D)(v:V):Prop:=∃a xs ds,v=.ref a∧d=.tup ds∧aQ K H a xs∧Paired (UT K F H) ds xs
def Val(K:Uw)(H₀:Hp)(O:Uv)(Hb H:Hp):M→D→V→Prop
 |.al,d,v=>Rp K (λa=>¬O a) H v d
 |.fr,d,v=>Rp K (λa=>¬O a∧H₀ a=none) H v d
 |.rb,d,v=>Rp K (λa=>H₀ a=none) H v d
 |.un,d,v=>∃p,v=.ref p∧Hb p=none∧H₀ p=none∧¬O p∧Cell K (λa=>(¬O a∧H₀ a=none)∧a≠p) H p d
 |.bo,d,v=>∃p,v=.ref p∧O p∧H₀ p=none∧Cell K (λa=>¬O a∧H₀ a=none) H p d
 |.bi,d,v=>∃p,v=.ref p∧O p∧Cell K (λa=>¬O a∧H₀ a=none) H p d
 |.nb,d,v=>gO K H₀ O H d v
 |.ut,d,v=>cI K (λq=>Hb q=none∧H₀ q=none∧¬O q) H d v
abbrev aI:M→M
 |.al=>.al
 |.rb=>.rb
 |.nb=>.rb
 |_=>.fr
noncomputable abbrev HE:Hp:=λ_=>none
section
variable {K:Uw}{N N':Uv}{H H' H₀ Hb Fo:Hp}{O:Uv}{m:M}{d:D}{v:V}{p:Addr}
theorem Cell.keep(k:Keeps N H H')(e:H' p=H p)(h:Cell K N H p d):Cell K N H' p d:=by
 cases d<;>simp only[Cell]at h ⊢
 ·let⟨xs,q,r⟩:=h;exact⟨xs,e.trans q,r.keep k⟩
 ·let⟨xs,q,z,r⟩:=h;exact⟨xs,e.trans q,z,r.keep k⟩
 ·let⟨xs,q,z,r⟩:=h;exact⟨xs,e.trans q,z,r.keep k⟩
theorem Cell.some(h:Cell K N H p d):∃o,H p=some o∧¬fS o:=by
 cases d<;>simp only[Cell]at h
 ·let⟨xs,q,r⟩:=h;exact⟨_,q,λz=>z⟩
 ·let⟨xs,q,z,r⟩:=h;exact⟨_,q,λz=>z⟩
 ·let⟨xs,q,z,r⟩:=h;exact⟨_,q,λz=>z⟩
theorem Cell.wk(w:∀a,N a→(∃o,H a=Option.some o)→N' a)(h:Cell K N H p d):Cell K N' H p d:=by
 cases d<;>simp only[Cell]at h ⊢
 ·let⟨xs,q,r⟩:=h;exact⟨xs,q,r.wk w⟩
 ·let⟨xs,q,z,r⟩:=h;exact⟨xs,q,z,r.wk w⟩
 ·let⟨xs,q,z,r⟩:=h;exact⟨xs,q,z,r.wk w⟩
def Cell.rp(n:N p)(h:Cell K N H p d):Rp K N H (.ref p) d:=by
 cases d<;>simp only[Cell]at h
 ·let⟨xs,q,r⟩:=h;exact .lst (.inl q) n r
 ·let⟨xs,q,z,r⟩:=h;exact .dk (.inl q) n z r
 ·let⟨xs,q,z,r⟩:=h;exact .dt (.inl q) n z r
theorem jA{F G:Addr→Ut→Prop}:∀{qs:List Addr}{aG:List (Ut)},(∀q ds,q∈qs→F q ds→G q ds)→Paired F qs aG→Paired G qs aG
 |_,_,_,.nil=>.nil
 |_,_,h,.cons a t=>.cons (h _ _ bC a) (jA (λq ds m=>h q ds (bP _ m)) t)
theorem gO.keep(s:aB H H')(h:gO K H₀ O H d v):gO K H₀ O H' d v:=by
 let⟨p,qs,aG,e1,e2,h1,h2,h3,h4,h5,h6⟩:=h;exact⟨p,qs,aG,e1,e2,h1,h2,s _ _ h3,h4,h5,jA (λq ds _ ⟨xs,a,b⟩=>⟨xs,s _ _ a,b.keep (.same s)⟩) h6⟩
theorem gO.eW{F:Uv}(w:∀a,H₀ a=none→F a):∀{qs:List Addr}{aG:List (Ut)},(∀q∈qs,O q∧H₀ q=none∧q≠p)→Paired (λq ds=>∃xs,H q=some (.lst xs)∧ao K (λa=>¬O a∧H₀ a=none) H xs ds) qs aG→ao K F H (qs.map V.ref) (aG.map D.lst)
 |_,_,_,.nil=>.nil
 |_,_,h,.cons ⟨xs,a,b⟩ t=>.cons (.lst (.inl a) (w _ (h _ bC).2.1) (b.wk λx z _=>w x z.2)) (gO.eW w (λq m=>h q (bP _ m)) t)
def gO.rp{F:Uv}(w:∀a,H₀ a=none→F a)(h:gO K H₀ O H d v):Rp K F H v d:=by
 let⟨p,qs,aG,rfl,rfl,h1,h2,h3,h4,h5,h6⟩:=h;exact .lst (.inl h3) (w _ h2) (gO.eW w h5 h6)
theorem cI.keep{F:Uv}(s:aB H H')(h:cI K F H d v):cI K F H' d v:=by
 let⟨a,xs,ds,e1,e2,h1,h2⟩:=h;refine⟨a,xs,ds,e1,e2,(Keeps.same (N:=λ_=>True) s).sq h1,Paired.mw h2 λd v z=>?_⟩;rcases z with⟨z1,z2⟩|⟨q,z1,z2,c⟩
 ·exact .inl ⟨z1,z2.keep (.same s)⟩
 ·let⟨o,e,_⟩:=c.some;exact .inr ⟨q,z1,z2,c.keep (.same s) ((s _ _ e).trans e.symm)⟩
def cI.wk{F F':Uv}(w:∀q,F q→F' q)(h:cI K F H d v):cI K F' H d v:=by
 let⟨a,xs,ds,e1,e2,h1,h2⟩:=h;exact⟨a,xs,ds,e1,e2,h1,Paired.mw h2 λd v z=>z.imp id λ⟨q,z1,z2,c⟩=>⟨q,z1,w q z2,c⟩⟩
def cI.eW{F:Uv}(w:∀q,F q→N q){ds:Ut}{xs:List V}(h:Paired (UT K F H) ds xs):ao K N H xs ds:=ao.of (Paired.mw h λd v z=>by
 rcases z with⟨z1,z2⟩|⟨q,rfl,z2,c⟩
 ·exact z2.im z1
 ·exact(c.wk λ_ z _=>z.elim).rp (w q z2))
def cI.rp{F:Uv}(w:∀q,F q→N q)(h:cI K F H d v):Rp K N H v d:=by
 let⟨a,xs,ds,rfl,rfl,h1,h2⟩:=h;exact .tup h1 (cI.eW w h2)
theorem Val.keep(s:aB H H')(h:Val K H₀ O Hb H m d v):Val K H₀ O Hb H' m d v:=by
 cases m<;>simp only[Val]at h ⊢
 ·exact h.keep (.same s)
 ·exact h.keep (.same s)
 ·let⟨p,e,h1,h2,h3,c⟩:=h;let⟨o,q,_⟩:=c.some;exact⟨p,e,h1,h2,h3,c.keep (.same s) ((s _ _ q).trans q.symm)⟩
 ·let⟨p,e,h1,h2,c⟩:=h;let⟨o,q,_⟩:=c.some;exact⟨p,e,h1,h2,c.keep (.same s) ((s _ _ q).trans q.symm)⟩
 ·let⟨p,e,h1,c⟩:=h;let⟨o,q,_⟩:=c.some;exact⟨p,e,h1,c.keep (.same s) ((s _ _ q).trans q.symm)⟩
 ·exact h.keep (.same s)
 ·exact h.keep s
 ·exact h.keep s
def Val.hb(w:∀a,Hb a=none→Fo a=none)(h:Val K H₀ O Hb H m d v):Val K H₀ O Fo H m d v:=by
 cases m<;>simp only[Val]at h ⊢
 ·exact h
 ·exact h
 ·let⟨p,e,h1,r⟩:=h;exact⟨p,e,w _ h1,r⟩
 ·exact h
 ·exact h
 ·exact h
 ·exact h
 ·exact h.wk λq z=>⟨w _ z.1,z.2⟩
def Val.h0(h:Val K H₀ O Hb H m d v):Val K H₀ O HE H m d v:=h.hb λ_ _=>rfl
def Val.weak(h:Val K H₀ O Hb H m d v):Rp K (λ_=>True) H v d:=by
 cases m<;>simp only[Val]at h
 ·exact h.wk λ_ _ _=>trivial
 ·exact h.wk λ_ _ _=>trivial
 ·let⟨p,rfl,_,_,_,c⟩:=h;exact(c.wk λ_ _ _=>trivial).rp trivial
 ·let⟨p,rfl,_,_,c⟩:=h;exact(c.wk λ_ _ _=>trivial).rp trivial
 ·let⟨p,rfl,_,c⟩:=h;exact(c.wk λ_ _ _=>trivial).rp trivial
 ·exact h.wk λ_ _ _=>trivial
 ·exact h.rp λ_ _=>trivial
 ·exact h.rp λ_ _=>trivial
def Rp.int_inv{i:Int}(h:Rp K N H v (.int i)):v=.int i:=by cases h;rfl
def Rp.CN{b:Bool}(h:Rp K N H v (.bl b)):v=.bl b:=by cases h;rfl
def Rp.str_inv{x:Str}(h:Rp K N H v (.str x)):v=.str x:=by cases h;rfl
def Rp.Bz(h:Rp K N H v .non):v=.non:=by cases h;rfl
def Rp.MJ{n:String}(h:Rp K N H v (.ty n)):v=.ty n:=by cases h;rfl
theorem Val.int{i:Int}(h:Val K H₀ O Hb H m (.int i) v):v=.int i:=h.weak.int_inv
theorem Val.bl{b:Bool}(h:Val K H₀ O Hb H m (.bl b) v):v=.bl b:=h.weak.CN
theorem Val.str{x:Str}(h:Val K H₀ O Hb H m (.str x) v):v=.str x:=h.weak.str_inv
theorem Val.non(h:Val K H₀ O Hb H m .non v):v=.non:=h.weak.Bz
theorem Val.ty{x:String}(h:Val K H₀ O Hb H m (.ty x) v):v=.ty x:=h.weak.MJ
theorem Val.lst{ds:Ut}(h:Val K H₀ O Hb H m (.lst ds) v):∃a xs,v=.ref a∧bf K H a xs∧ao K (NM H₀ O (aI m)) H xs ds:=by
 cases m<;>simp only[Val,Cell]at h
 ·cases h with
  |lst r n q=>exact⟨_,_,rfl,.inl r,q⟩
  |lstK r q=>exact⟨_,_,rfl,.inr r,q⟩
 ·cases h with
  |lst r n q=>exact⟨_,_,rfl,.inl r,q⟩
  |lstK r q=>exact⟨_,_,rfl,.inr r,q⟩
 ·let⟨p,rfl,_,_,_,xs,q,r⟩:=h;exact⟨_,_,rfl,.inl (.inl q),r.wk λa h _=>h.1⟩
 ·let⟨p,rfl,_,_,xs,q,r⟩:=h;exact⟨_,_,rfl,.inl (.inl q),r⟩
 ·let⟨p,rfl,_,xs,q,r⟩:=h;exact⟨_,_,rfl,.inl (.inl q),r⟩
 ·cases h with
  |lst r n q=>exact⟨_,_,rfl,.inl r,q⟩
  |lstK r q=>exact⟨_,_,rfl,.inr r,q⟩
 ·let⟨p,qs,aG,rfl,e2,h1,h2,h3,h4,h5,h6⟩:=h;cases e2;exact⟨p,_,rfl,.inl (.inl h3),gO.eW (λ_ z=>z) h5 h6⟩
 ·let⟨_,_,_,_,e2,_⟩:=h;cases e2
theorem Val.tup{ds:Ut}(h:Val K H₀ O Hb H m (.tup ds) v):∃a xs,v=.ref a∧aQ K H a xs∧ao K (NM H₀ O (aI m)) H xs ds:=by
 cases m<;>simp only[Val,Cell]at h
 ·cases h with|tup r q=>exact⟨_,_,rfl,r,q⟩
 ·cases h with|tup r q=>exact⟨_,_,rfl,r,q⟩
 ·let⟨p,rfl,_,_,_,z⟩:=h;exact z.elim
 ·let⟨p,rfl,_,_,z⟩:=h;exact z.elim
 ·let⟨p,rfl,_,z⟩:=h;exact z.elim
 ·cases h with|tup r q=>exact⟨_,_,rfl,r,q⟩
 ·let⟨p,qs,aG,rfl,e2,_⟩:=h;cases e2
 ·let⟨a,xs,i5,rfl,e2,h1,h2⟩:=h;cases e2;exact⟨a,xs,rfl,h1,cI.eW (λq z=>⟨z.2.2,z.2.1⟩) h2⟩
def Val.el{a:V}{e:D}(h:Rp K (NM H₀ O (aI m)) H a e):Val K H₀ O Hb H (aI m) e a:=by
 cases m<;>exact h
def bI:M→D→Bool
 |.fr,_=>true
 |.un,_=>true
 |.ut,_=>true
 |_,d=>d.bD
def gw:M→D→Bool
 |.fr,_=>true
 |.un,_=>true
 |.ut,_=>true
 |.al,_=>true
 |_,d=>d.bD
def pF:M→D→Bool
 |.fr,_=>true
 |.un,_=>true
 |.ut,_=>true
 |.bo,_=>true
 |.rb,_=>true
 |_,d=>d.bD
theorem Val.bI(h:Val K H₀ O Hb H m d v)(e:J.bI m d=true):Rp K (λa=>¬O a∧H₀ a=none) H v d:=by
 cases m<;>simp only[J.bI]at e
 ·exact h.weak.im e
 ·exact h
 ·let⟨p,rfl,_,h1,h2,c⟩:=h;exact(c.wk λa h _=>h.1).rp ⟨h2,h1⟩
 ·exact h.weak.im e
 ·exact h.weak.im e
 ·exact h.weak.im e
 ·exact Rp.im e h.weak
 ·exact cI.rp (λq z=>⟨z.2.2,z.2.1⟩) h
theorem Val.gw(h:Val K H₀ O Hb H m d v)(e:J.gw m d=true):Rp K (λa=>¬O a) H v d:=by
 cases m<;>simp only[J.gw]at e
 ·exact h
 ·exact Rp.wk (λa h _=>h.1) (show Rp K (λa=>¬O a∧H₀ a=none) H v d from h)
 ·exact Rp.wk (λa h _=>h.1) (h.bI rfl)
 ·exact h.weak.im e
 ·exact h.weak.im e
 ·exact h.weak.im e
 ·exact Rp.im e h.weak
 ·exact cI.rp (λq z=>z.2.2) h
theorem Val.pF(h:Val K H₀ O Hb H m d v)(e:J.pF m d=true):Rp K (λa=>H₀ a=none) H v d:=by
 cases m<;>simp only[J.pF]at e
 ·exact h.weak.im e
 ·exact Rp.wk (λa h _=>h.2) (show Rp K (λa=>¬O a∧H₀ a=none) H v d from h)
 ·exact Rp.wk (λa h _=>h.2) (h.bI rfl)
 ·let⟨p,rfl,_,h1,c⟩:=h;exact(c.wk λa h _=>h.2).rp h1
 ·exact h.weak.im e
 ·exact h
 ·exact Rp.im e h.weak
 ·exact cI.rp (λq z=>z.2.1) h
end
abbrev fT:M→Bool
 |.un=>false
 |.rb=>false
 |.ut=>false
 |_=>true
structure b9 (K:Uw)(H₀:Hp)(O:Uv)(H:Hp)(σ:St)(env:Ev):Prop where
 sl:Paired (λ(e:Us) (x:Option V)=>∀m d,e=some (m,d)→fT m=true∧∃v,x=some v∧Val K H₀ O HE H m d v) env σ
 od:∀a,O a→∃o,H a=some o
 hd:∀a o,H₀ a=some o→∃o',H a=some o'
 on:∀a o,O a→H a=some o→¬fS o
def JT(K:Uw)(te:TE)(f:Uq):Prop :=
 ∀H₀ O H σ env Q m d,b9 K H₀ O H σ env→f env=some (m,d)→(∀v H',aB H H'→Val K H₀ O H H' m d v→Q v H')→te σ H Q
def cE(K:Uw)(tt:TT)(f:Up):Prop :=
 ∀H₀ O H σ env Q b,b9 K H₀ O H σ env→f env=some b→(∀H',aB H H'→Q b H')→tt σ H Q
def fB(K:Uw)(H₀:Hp)(O:Uv)(Hb H:Hp)(aF:List (M×D))(vs:List V):Prop:=Paired (λmd v=>Val K H₀ O Hb H md.1 md.2 v) aF vs
def gZ(K:Uw)(ta:TA)(f:Um):Prop :=
 ∀H₀ O H σ env Q aF,b9 K H₀ O H σ env→f env=some aF→(∀vs H',aB H H'→fB K H₀ O H H' aF vs→Q vs H')→ta σ H Q
section
variable {K:Uw}{H H' H₀:Hp}{O:Uv}{σ:St}{env:Ev}
theorem mh{α β:Type}{F G:α→β→Prop}(h:∀a b,F a b→G a b):∀{l:List α}{r:List β},Paired F l r→Paired G l r
 |_,_,.nil=>.nil
 |_,_,.cons q t=>.cons (h _ _ q) (mh h t)
theorem b9.keep(R:b9 K H₀ O H σ env)(s:aB H H'):b9 K H₀ O H' σ env :=
 ⟨mh (λe x h m d q=>⟨(h m d q).1,let ⟨v,e,z⟩:=(h m d q).2;⟨v,e,z.keep s⟩⟩) R.sl,λa h=>let ⟨o,q⟩:=R.od a h;⟨o,s _ _ q⟩,λa o h=>let ⟨o,q⟩:=R.hd a o h;⟨o,s _ _ q⟩,λa o h e=>by
  let⟨o',q⟩:=R.od a h;let z:=s _ _ q;rw[e]at z;cases z;exact R.on a _ h q⟩
theorem xi{α β:Type}{F:α→β→Prop}:∀{l:List α}{r:List β}{i:Nat}{a:α},Paired F l r→l[i]?=some a→∃b,r[i]?=some b∧F a b
 |_,_,_,_,.nil,e=>by simp at e
 |_,_,0,_,.cons h _,e=>by simp at e;subst e;exact⟨_,rfl,h⟩
 |_,_,i+1,a,.cons _ r,e=>by
  let⟨v,h1,h2⟩:=xi (i:=i) (a:=a) r (by simpa using e);exact⟨v,by simpa using h1,h2⟩
def b9.at{i:Nat}{m:M}{d:D}(R:b9 K H₀ O H σ env)(e:env[i]?=some (some (m,d))):∃v,σ[i]?=some (some v)∧fT m=true∧Val K H₀ O HE H m d v:=by
 let⟨x,hx,h⟩:=xi R.sl e;let⟨h0,v,rfl,hz⟩:=h m d rfl;exact⟨v,hx,h0,hz⟩
def Val.O4{m:M}{d:D}{v:V}{Hb:Hp}(n:fT m=true)(h:Val K H₀ O HE H m d v):Val K H₀ O Hb H m d v:=by
 cases m<;>first|exact h|cases n
abbrev jV(i:Nat):Uq:=λe=>(e[i]?).bind id
def CP{i:Nat}:JT K (eD i) (jV i):=by
 intro H₀ O H σ env Q m d R h q;unfold jV at h;cases e:env[i]? with
 |none=>rw[e]at h;cases h
 |some x =>
  rw[e]at h;obtain rfl:x=some (m,d):=h;let⟨v,hv,n,hm⟩:=R.at e;exact⟨v,hv,q v H (aB.refl H) (hm.O4 n)⟩
abbrev jC(d:D):Uq:=λ_=>some (.fr,d)
abbrev cD:V→Option D
 |.non=>some .non
 |.bl b=>some (.bl b)
 |.int i=>some (.int i)
 |.str x=>some (.str x)
 |.ty n=>some (.ty n)
 |_=>none
def kU{v:V}{d:D}(e:cD v=some d):JT K (tC v) (jC d):=by
 intro H₀ O H σ env Q m d' R h q;cases h;refine q v H (aB.refl H) ?_;cases v<;>simp only[cD]at e<;>cases e<;>constructor
def JR(K:Uw)(r:R2)(g:M×D→M×D→Us):Prop :=
 ∀H₀ O H x y a b Q m d,(∀a,O a→∃o,H a=some o)→(∀a o,H₀ a=some o→∃o',H a=some o')→Val K H₀ O HE H (Prod.fst a) a.2 x→Val K H₀ O HE H (Prod.fst b) b.2 y→g a b=some (m,d)→(∀v H',aB H H'→Val K H₀ O H H' m d v→Q v H')→r x y H Q
abbrev ah(g:M×D→M×D→Us)(fa fb:Uq):Uq:=λe=>(fa e).bind λx=>(fb e).bind λy=>g x y
def rO{r:R2}{g:M×D→M×D→Us}{ta tb:TE}{fa fb:Uq}(hr:JR K r g)(ha:JT K ta fa)(hb:JT K tb fb):JT K (iW r ta tb) (ah g fa fb):=by
 intro H₀ O H σ env Q m d R h q;unfold ah at h;cases ea:fa env with
 |none=>rw[ea]at h;cases h
 |some a =>
  cases eb:fb env with
  |none=>rw[ea,eb]at h;cases h
  |some b =>
   rw[ea,eb]at h;refine ha H₀ O H σ env _ a.1 a.2 R ea λx H1 s1 h1=>?_;refine hb H₀ O H1 σ env _ b.1 b.2 (R.keep s1) eb λy H2 s2 h2=>?_;let R2:=(R.keep s1).keep s2;refine hr H₀ O H2 x y a b Q m d R2.od R2.hd (h1.keep s2).h0 h2.h0 h λv H3 s3 h3=>?_;exact q v H3 ((s1.trans s2).trans s3) (h3.hb λa z=>(s1.trans s2).free z)
abbrev eY(g:M×D→Us)(fa:Uq):Uq:=λe=>(fa e).bind g
def JU(K:Uw)(r:V→Hp→VK→Prop)(g:M×D→Us):Prop :=
 ∀H₀ O H x a Q m d,(∀a,O a→∃o,H a=some o)→(∀a o,H₀ a=some o→∃o',H a=some o')→Val K H₀ O HE H (Prod.fst a) a.2 x→g a=some (m,d)→(∀v H',aB H H'→Val K H₀ O H H' m d v→Q v H')→r x H Q
def O6{r:V→Hp→VK→Prop}{g:M×D→Us}{ta:TE}{fa:Uq}(hr:JU K r g)(ha:JT K ta fa):JT K (E4 r ta) (eY g fa):=by
 intro H₀ O H σ env Q m d R h q;unfold eY at h;cases ea:fa env with
 |none=>rw[ea]at h;cases h
 |some a =>
  rw[ea]at h;refine ha H₀ O H σ env _ a.1 a.2 R ea λx H1 s1 h1=>?_;let R1:=R.keep s1;exact hr H₀ O H1 x a Q m d R1.od R1.hd h1.h0 h λv H3 s3 h3=>q v H3 (s1.trans s3) (h3.hb λa z=>s1.free z)
def jG{H:Hp}{Hb:Hp}{i:Int}:Val K H₀ O Hb H .fr (.int i) (.int i):=Rp.int i
def cP{H:Hp}{Hb:Hp}{i:Bool}:Val K H₀ O Hb H .fr (.bl i) (.bl i):=Rp.bl i
def DM{H:Hp}{Hb:Hp}{i:Str}:Val K H₀ O Hb H .fr (.str i) (.str i):=Rp.str i
abbrev gI(c:Int→Int→Prop)[∀i j,Decidable (c i j)](f:Int→Int→Int):M×D→M×D→Us
 | (_,.int i),(_,.int j)=>if c i j then some (.fr,.int (f i j))else none
 |_,_=>none
abbrev yM(f:Int→Int→Int):M×D→M×D→Us
 | (_,.int i),(_,.int j)=>some (.fr,.int (f i j))
 |_,_=>none
abbrev uK(f:Int→Int→Bool):M×D→M×D→Us
 | (_,.int i),(_,.int j)=>some (.fr,.bl (f i j))
 |_,_=>none
set_option tactic.hygienic true in
def tj{C:Int→Int→Prop}{c:Int→Int→Prop}[∀i j,Decidable (c i j)]{f:Int→Int→Int}(w:∀i j,c i j→C i j):JR K (rI C λi j=>.int (f i j)) (gI c f):=by
 intro H₀ O H x y a b Q m d _ _ h1 h2 h q;let⟨ma,da⟩:=a;let⟨mb,db⟩:=b;cases da<;>try (cases h;done)
 cases db<;>try (cases h;done)
 rename_i i j;simp only[gI]at h;split at h
 ·rename_i hc;cases h;exact⟨i,j,h1.int,h2.int,w i j hc,q _ H (aB.refl H) jG⟩
 ·cases h
set_option tactic.hygienic true in
def DN{f:Int→Int→Int}:JR K (fM λi j=>.int (f i j)) (yM f):=by
 intro H₀ O H x y a b Q m d _ _ h1 h2 h q;let⟨ma,da⟩:=a;let⟨mb,db⟩:=b;cases da<;>try (cases h;done)
 cases db<;>try (cases h;done)
 rename_i i j;cases h;exact⟨i,j,h1.int,h2.int,q _ H (aB.refl H) jG⟩
set_option tactic.hygienic true in
def DP{f:Int→Int→Bool}:JR K (fM λi j=>.bl (f i j)) (uK f):=by
 intro H₀ O H x y a b Q m d _ _ h1 h2 h q;let⟨ma,da⟩:=a;let⟨mb,db⟩:=b;cases da<;>try (cases h;done)
 cases db<;>try (cases h;done)
 rename_i i j;cases h;exact⟨i,j,h1.int,h2.int,q _ H (aB.refl H) cP⟩
def Ey:=yM (·+·)
def gP:=yM (· - ·)
abbrev cW:=gI (λi j=>(-18446744073709551616<i∧i<18446744073709551616)∨(-18446744073709551616<j∧j<18446744073709551616)) (· * ·)
abbrev bt:=gI (λ_ j=>0<j) (· % ·)
abbrev kW:=gI (λi j=>0≤j∧j≤1000000∧i.natAbs<2^64) (λi j=>i^j.toNat)
def g0:=uK (λi j=>decide (i<j))
def Q9:=uK (λi j=>decide (i≤j))
def uL:=uK (λi j=>decide (j<i))
def MK:JR K (fM λi j=>.int (i+j)) Ey:=DN
def ML:JR K (fM λi j=>.int (i-j)) gP:=DN
def Ra:(2:Int)^64=18446744073709551616:=by decide
def MN:JR K (rI oj λi j=>.int (i*j)) cW:=tj λi j h=>by
 unfold oj;rw[Ra];exact h
def MP:JR K (rI (λ_ j=>0<j) λi j=>.int (i%j)) bt:=tj λ_ _ h=>h
def MQ:JR K (rI En λi j=>.int (i^j.toNat)) kW:=tj λ_ _ h=>h
def O7:JR K (fM λi j=>.bl (decide (i<j))) g0:=DP
def O8:JR K (fM λi j=>.bl (decide (j<i))) uL:=DP
abbrev dW:D→Option V
 |.non=>some .non
 |.bl b=>some (.bl b)
 |.int i=>some (.int i)
 |.str x=>some (.str x)
 |_=>none
def mj{N:Uv}{d:D}{v w:V}(h:Rp K N H v d)(e:dW d=some w):v=w:=by
 cases h<;>simp only[dW]at e<;>cases e<;>rfl
def bA:M×D→M×D→Us:=λa b=>(dW a.2).bind λx=>(dW b.2).bind λy=>if sF x y=true then some (.fr,.bl (decide (x=y)))else none
def j0:M×D→M×D→Us:=λa b=>(dW a.2).bind λx=>(dW b.2).bind λy=>if sF x y=true then some (.fr,.bl (!decide (x=y)))else none
def O9:JR K E5 bA:=by
 intro H₀ O H x y a b Q m d _ _ h1 h2 h q;unfold bA at h;cases e1:dW a.2 with
 |none=>rw[e1]at h;cases h
 |some x' =>
  cases e2:dW b.2 with
  |none=>rw[e1,e2]at h;cases h
  |some y' =>
   rw[e1,e2]at h;obtain rfl:=mj h1.weak e1;obtain rfl:=mj h2.weak e2;simp only[Option.bind_some]at h;split at h
   ·rename_i hc;cases h;exact⟨hc,q _ H (aB.refl H) cP⟩
   ·cases h
def Pa:JR K E6 j0:=by
 intro H₀ O H x y a b Q m d _ _ h1 h2 h q;unfold j0 at h;cases e1:dW a.2 with
 |none=>rw[e1]at h;cases h
 |some x' =>
  cases e2:dW b.2 with
  |none=>rw[e1,e2]at h;cases h
  |some y' =>
   rw[e1,e2]at h;obtain rfl:=mj h1.weak e1;obtain rfl:=mj h2.weak e2;simp only[Option.bind_some]at h;split at h
   ·rename_i hc;cases h;exact⟨hc,q _ H (aB.refl H) cP⟩
   ·cases h
abbrev eZ:D→Bool
 |.non=>true
 |_=>false
def mD:M×D→M×D→Us:=λa b=>if eZ b.2=true then some (.fr,.bl (eZ a.2))else none
def ku:M×D→M×D→Us:=λa b=>if eZ b.2=true then some (.fr,.bl (!eZ a.2))else none
def CQ{N:Uv}{d:D}{v:V}(h:Rp K N H v d):eZ d=decide (v=.non):=by
 cases h<;>rfl
def CT{d:D}(h:eZ d=true):d=.non:=by
 cases d<;>first|rfl|cases h
def MR:JR K (λx y H Q=>y=.non∧Q (.bl (decide (x=.non))) H) mD:=by
 intro H₀ O H x y a b Q m d _ _ h1 h2 h q;let⟨mb,db⟩:=b;unfold mD at h;rw[CQ h1.weak]at h;by_cases hb:eZ db=true
 ·rw[if_pos hb]at h;cases CT hb;cases h;exact⟨h2.non,q _ H (aB.refl H) cP⟩
 ·rw[if_neg hb]at h;cases h
def Kw:JR K (λx y H Q=>y=.non∧Q (.bl (!decide (x=.non))) H) ku:=by
 intro H₀ O H x y a b Q m d _ _ h1 h2 h q;let⟨mb,db⟩:=b;unfold ku at h;rw[CQ h1.weak]at h;by_cases hb:eZ db=true
 ·rw[if_pos hb]at h;cases CT hb;cases h;exact⟨h2.non,q _ H (aB.refl H) cP⟩
 ·rw[if_neg hb]at h;cases h
def aC:M×D→M×D→Us
 | (m,.lst ds),(_,.int i)=>(aT ds i).map λd=>(aI m,d)
 | (m,.tup ds),(_,.int i)=>(aT ds i).map λd=>(aI m,d)
 | (_,.str z),(_,.int i)=>if z.length≤sizeLine then (aT z.cps.toList i).map λc=>(.fr,.str ⟨#[c]⟩)else none
 |_,_=>none
set_option tactic.hygienic true in
def Pb:JR K (lu K) aC:=by
 intro H₀ O H x y a b Q m d _ _ h1 h2 h q;let⟨ma,da⟩:=a;let⟨mb,db⟩:=b;cases da<;>try (cases h;done)
 ·cases db<;>try (cases h;done)
  rename_i z i;simp only[aC]at h;split at h
  ·rename_i hl;cases e:aT z.cps.toList i with
   |none=>rw[e]at h;cases h
   |some c =>
    rw[e]at h;cases h;exact .inr (.inr ⟨z,i,c,h1.str,h2.int,hl,e,q _ H (aB.refl H) DM⟩)
  ·cases h
 ·cases db<;>try (cases h;done)
  rename_i ds i;simp only[aC]at h;cases e:aT ds i with
  |none=>rw[e]at h;cases h
  |some c =>
   rw[e]at h;cases h;let⟨p,xs,rfl,hp,hs⟩:=h1.tup;let⟨v,hv,r⟩:=hs.aT e;exact .inr (.inl ⟨p,xs,i,v,rfl,h2.int,hp,hv,q _ H (aB.refl H) (.el r)⟩)
 ·cases db<;>try (cases h;done)
  rename_i ds i;simp only[aC]at h;cases e:aT ds i with
  |none=>rw[e]at h;cases h
  |some c =>
   rw[e]at h;cases h;let⟨p,xs,rfl,hp,hs⟩:=h1.lst;let⟨v,hv,r⟩:=hs.aT e;exact .inl ⟨p,xs,i,v,rfl,h2.int,hp,hv,q _ H (aB.refl H) (.el r)⟩
end
section
variable {K:Uw}{H H' H₀:Hp}{O:Uv}{σ:St}{env:Ev}
abbrev j3:M×D→Option Bool
 | (_,.bl b)=>some b
 |_=>none
def lT{a:M×D}{b:Bool}(h:j3 a=some b):a.2=.bl b:=by
 let⟨m,d⟩:=a;cases d<;>simp only[j3]at h<;>first | (cases h;rfl)|cases h
def oz(fa fb:Uq):Uq:=λe=>(fa e).bind λx=>(j3 x).bind λb=>if b=true then fb e else some (.fr,.bl false)
def yN(fa fb:Uq):Uq:=λe=>(fa e).bind λx=>(j3 x).bind λb=>if b=true then some (.fr,.bl true)else fb e
def xj(fa:Uq):Uq:=λe=>(fa e).bind λx=>(j3 x).bind λb=>some (.fr,.bl (!b))
def ak{α β:Type}{x:Option α}{f:α→Option β}{y:β}(h:x.bind f=some y):∃a,x=some a∧f a=some y:=by
 cases x with
 |none=>cases h
 |some a=>exact⟨a,rfl,h⟩
def MS{ta tb:TE}{fa fb:Uq}(ha:JT K ta fa)(hb:JT K tb fb):JT K (Dz ta tb) (oz fa fb):=by
 intro H₀ O H σ env Q m d R h q;let⟨a,ea,h⟩:=ak h;let⟨b,eb,h⟩:=ak h;refine ha H₀ O H σ env _ a.1 a.2 R ea λx H1 s1 h1=>?_;rw[lT eb]at h1;refine⟨b,h1.bl,?_⟩;cases b with
 |true =>
  rw[if_pos rfl]at h ⊢;exact hb H₀ O H1 σ env _ m d (R.keep s1) h λv H2 s2 h2=>q v H2 (s1.trans s2) (h2.hb λa z=>s1.free z)
 |false =>
  rw[if_neg aL]at h ⊢;cases h;exact q _ H1 s1 cP
def Pg{ta tb:TE}{fa fb:Uq}(ha:JT K ta fa)(hb:JT K tb fb):JT K (Ei ta tb) (yN fa fb):=by
 intro H₀ O H σ env Q m d R h q;let⟨a,ea,h⟩:=ak h;let⟨b,eb,h⟩:=ak h;refine ha H₀ O H σ env _ a.1 a.2 R ea λx H1 s1 h1=>?_;rw[lT eb]at h1;refine⟨b,h1.bl,?_⟩;cases b with
 |true =>
  rw[if_pos rfl]at h ⊢;cases h;exact q _ H1 s1 cP
 |false =>
  rw[if_neg aL]at h ⊢;exact hb H₀ O H1 σ env _ m d (R.keep s1) h λv H2 s2 h2=>q v H2 (s1.trans s2) (h2.hb λa z=>s1.free z)
def MT{ta:TE}{fa:Uq}(ha:JT K ta fa):JT K (DB ta) (xj fa):=by
 intro H₀ O H σ env Q m d R h q;let⟨a,ea,h⟩:=ak h;let⟨b,eb,h⟩:=ak h;cases h;refine ha H₀ O H σ env _ a.1 a.2 R ea λx H1 s1 h1=>?_;rw[lT eb]at h1;exact⟨b,h1.bl,q _ H1 s1 cP⟩
def jB(f:Uq):Up:=λe=>(f e).bind j3
def oa{t:TE}{f:Uq}(h:JT K t f):cE K (tB t) (jB f):=by
 intro H₀ O H σ env Q b R e q;let⟨a,ea,e⟩:=ak e;refine h H₀ O H σ env _ a.1 a.2 R ea λx H1 s1 h1=>?_;rw[lT e]at h1;exact⟨b,h1.bl,q H1 s1⟩
def A2{t:TE}{f:Uq}(h:JT K t f):cE K (wG t) (jB f):=oa h
def HZ{t:TE}{f:Uq}(h:JT K t f):cE K (λσ H Q=>t σ H λx H'=>∃k,sH K x H' k∧Q k H') (jB f):=by
 intro H₀ O H σ env Q b R e q;let⟨a,ea,e⟩:=ak e;refine h H₀ O H σ env _ a.1 a.2 R ea λx H1 s1 h1=>?_;rw[lT e]at h1;exact⟨b,by rw[h1.bl];exact rfl,q H1 s1⟩
abbrev fC(f g:Up):Up:=λe=>(f e).bind λb=>if b=true then g e else some false
abbrev gx(f g:Up):Up:=λe=>(f e).bind λb=>if b=true then some true else g e
abbrev oA(f:Up):Up:=λe=>(f e).bind λb=>some (!b)
def Kx{t u:TT}{f g:Up}(h:cE K t f)(h':cE K u g):cE K (Eg t u) (fC f g):=by
 intro H₀ O H σ env Q b R e q;let⟨c,ec,e⟩:=ak e;refine h H₀ O H σ env _ c R ec λH1 s1=>?_;cases c with
 |true =>
  rw[if_pos rfl]at e ⊢;exact h' H₀ O H1 σ env _ b (R.keep s1) e λH2 s2=>q H2 (s1.trans s2)
 |false =>
  rw[if_neg aL]at e ⊢;cases e;exact q H1 s1
def MV{t u:TT}{f g:Up}(h:cE K t f)(h':cE K u g):cE K (E1 t u) (gx f g):=by
 intro H₀ O H σ env Q b R e q;let⟨c,ec,e⟩:=ak e;refine h H₀ O H σ env _ c R ec λH1 s1=>?_;cases c with
 |true =>
  rw[if_pos rfl]at e ⊢;cases e;exact q H1 s1
 |false =>
  rw[if_neg aL]at e ⊢;exact h' H₀ O H1 σ env _ b (R.keep s1) e λH2 s2=>q H2 (s1.trans s2)
def Ky{t:TT}{f:Up}(h:cE K t f):cE K (Eh t) (oA f):=by
 intro H₀ O H σ env Q b R e q;let⟨c,ec,e⟩:=ak e;cases e;exact h H₀ O H σ env _ c R ec λH1 s1=>q H1 s1
abbrev tm(c:Up)(fa fb:Uq):Uq:=λe=>(c e).bind λb=>if b=true then fa e else fb e
def MX{t:TT}{c:Up}{ta tb:TE}{fa fb:Uq}(hc:cE K t c)(ha:JT K ta fa)(hb:JT K tb fb):JT K (E2 t ta tb) (tm c fa fb):=by
 intro H₀ O H σ env Q m d R h q;let⟨b,eb,h⟩:=ak h;refine hc H₀ O H σ env _ b R eb λH1 s1=>?_;cases b with
 |true =>
  rw[if_pos rfl]at h ⊢;exact ha H₀ O H1 σ env _ m d (R.keep s1) h λv H2 s2 h2=>q v H2 (s1.trans s2) (h2.hb λa z=>s1.free z)
 |false =>
  rw[if_neg aL]at h ⊢;exact hb H₀ O H1 σ env _ m d (R.keep s1) h λv H2 s2 h2=>q v H2 (s1.trans s2) (h2.hb λa z=>s1.free z)
def wj(g g':M×D→M×D→Us)(fa fb fc:Uq):Uq:=λe=>(fa e).bind λx=>(fb e).bind λy=>(g x y).bind λz=>(j3 z).bind λk=>if k=true then (fc e).bind λw=>g' y w else some (.fr,.bl false)
abbrev ai:Um:=λ_=>some []
abbrev ag(f:Uq)(g:Um):Um:=λe=>(f e).bind λx=>(g e).bind λr=>some (x::r)
def BD:gZ K fA ai:=by
 intro H₀ O H σ env Q aF R h q;cases h;exact q [] H (aB.refl H) .nil
def vE{te:TE}{ta:TA}{f:Uq}{g:Um}(hf:JT K te f)(hg:gZ K ta g):gZ K (fu te ta) (ag f g):=by
 intro H₀ O H σ env Q aF R h q;let⟨x,ex,h⟩:=ak h;let⟨r,er,h⟩:=ak h;cases h;refine hf H₀ O H σ env _ x.1 x.2 R ex λv H1 s1 h1=>?_;refine hg H₀ O H1 σ env _ r (R.keep s1) er λvs H2 s2 h2=>?_;exact q (v::vs) H2 (s1.trans s2) (.cons (h1.keep s2) (mh (λ_ _ z=>z.hb λa z=>s1.free z) h2))
theorem fB.eW{N:Uv}{Hb:Hp}:∀{aF:List (M×D)}{vs:List V},(∀md∈aF,∀v,Val K H₀ O Hb H md.1 md.2 v→Rp K N H v md.2)→fB K H₀ O Hb H aF vs→ao K N H vs (aF.map (·.2))
 |_,_,_,.nil=>.nil
 |md::aF,v::vs,h,.cons a r=>.cons (h md bC v a) (fB.eW (λx hx=>h x (bP _ hx)) r)
def bZ{p:Addr}{o:HO}(h:H p=none):aB H (upd H p o):=λb u e=>by rw[aD (cu e h)];exact e
def cQ(aF:List (M×D)):Us :=
 if aF.length≤sizeLine then
  if (aF.all λmd=>bI md.1 md.2)=true then some (.un,.lst (aF.map (·.2)))
  else if (aF.all λmd=>gw md.1 md.2)=true then some (.al,.lst (aF.map (·.2)))else none
 else none
def a9(fs:Um):Uq:=λe=>(fs e).bind cQ
def qQ{p:Addr}{xs:List V}{ds:Ut}(od:∀a,O a→∃o,H a=some o)(hd:∀a o,H₀ a=some o→∃o',H a=some o')(hp:H p=none)(r:ao K (λa=>¬O a∧H₀ a=none) H xs ds):Val K H₀ O H (upd H p (.lst xs)) .un (.lst ds) (.ref p):=by
 refine⟨p,rfl,hp,?_,?_,xs,bh,?_⟩
 ·cases e:H₀ p with
  |none=>rfl
  |some o=>let⟨o',e'⟩:=hd p o e;rw[hp]at e';cases e'
 ·intro z;let⟨o,e⟩:=od p z;rw[hp]at e;cases e
 ·refine(ao.wk (λa h ⟨o,e⟩=>⟨h,?_⟩) r).keep (.same (bZ hp));exact cu e hp
def eh{p:Addr}(od:∀a,O a→∃o,H a=some o)(hp:H p=none):¬O p:=by
 intro z;let⟨o,e⟩:=od p z;rw[hp]at e;cases e
def g5{p:Addr}(hd:∀a o,H₀ a=some o→∃o',H a=some o')(hp:H p=none):H₀ p=none:=by
 cases e:H₀ p with
 |none=>rfl
 |some o=>let⟨o',e'⟩:=hd p o e;rw[hp]at e';cases e'
def MY{ta:TA}{fs:Um}(ha:gZ K ta fs):JT K (sJ ta) (a9 fs):=by
 intro H₀ O H σ env Q m d R h q;let⟨aF,e,h⟩:=ak h;unfold cQ at h;split at h
 ·rename_i hl;refine ha H₀ O H σ env _ aF R e λvs H1 s1 h1=>⟨by rw[←cf h1];exact hl,λp hp=>?_⟩;let R1:=R.keep s1;split at h
  ·rename_i hs;cases h;rw[fH]at hs;exact q _ _ (s1.trans (bZ hp)) ((qQ R1.od R1.hd hp (h1.eW λmd hm v hv=>hv.bI (hs md hm))).hb λa z=>s1.free z)
  ·split at h
   ·rename_i hs;cases h;rw[fH]at hs;refine q _ _ (s1.trans (bZ hp)) ?_;exact Rp.lst (.inl bh) (eh R1.od hp) ((h1.eW λmd hm v hv=>hv.gw (hs md hm)).keep (.same (bZ hp)))
   ·cases h
 ·cases h
def og(aF:List (M×D)):Us :=
 if aF.length≤sizeLine then
  if (aF.all λmd=>bI md.1 md.2)=true then some (.fr,.tup (aF.map (·.2)))
  else if (aF.all λmd=>gw md.1 md.2)=true then some (.al,.tup (aF.map (·.2)))
  else if (aF.all λmd=>pF md.1 md.2)=true then some (.rb,.tup (aF.map (·.2)))else none
 else none
def bG(fs:Um):Uq:=λe=>(fs e).bind og
def MZ{ta:TA}{fs:Um}(ha:gZ K ta fs):JT K (Eo ta) (bG fs):=by
 intro H₀ O H σ env Q m d R h q;let⟨aF,e,h⟩:=ak h;unfold og at h;split at h
 ·rename_i hl;refine ha H₀ O H σ env _ aF R e λvs H1 s1 h1=>⟨by rw[←cf h1];exact hl,λp hp=>?_⟩;split at h
  ·rename_i hs;cases h;rw[fH]at hs;exact q _ _ (s1.trans (bZ hp)) (Rp.tup (.inl bh) ((h1.eW λmd hm v hv=>hv.bI (hs md hm)).keep (.same (bZ hp))))
  ·split at h
   ·rename_i hs;cases h;rw[fH]at hs;exact q _ _ (s1.trans (bZ hp)) (Rp.tup (.inl bh) ((h1.eW λmd hm v hv=>hv.gw (hs md hm)).keep (.same (bZ hp))))
   ·split at h
    ·rename_i hs;cases h;rw[fH]at hs;exact q _ _ (s1.trans (bZ hp)) (Rp.tup (.inl bh) ((h1.eW λmd hm v hv=>hv.pF (hs md hm)).keep (.same (bZ hp))))
    ·cases h
 ·cases h
def pG(m:M)(ds:Ut):Us :=
 if aI m=.al then (if D.dJ ds=true then some (.un,.lst ds)else some (.al,.lst ds))else if aI m=.rb then (if D.dJ ds=true then some (.un,.lst ds)else none)else some (.un,.lst ds)
def vP{p:Addr}{xs:List V}{ds:Ut}{m m':M}{d:D}(od:∀a,O a→∃o,H a=some o)(hd:∀a o,H₀ a=some o→∃o',H a=some o')(hp:H p=none)(r:ao K (NM H₀ O (aI m)) H xs ds)(h:pG m ds=some (m',d)):Val K H₀ O H (upd H p (.lst xs)) m' d (.ref p):=by
 unfold pG at h;split at h
 ·rename_i e;rw[e]at r;split at h
  ·rename_i e;cases h;exact qQ od hd hp (ao.im e r)
  ·cases h;exact Rp.lst (.inl bh) (eh od hp) (r.keep (.same (bZ hp)))
 ·split at h
  ·split at h
   ·rename_i e;cases h;exact qQ od hd hp (ao.im e r)
   ·cases h
  ·rename_i e1 e2;cases h;let e:aI m=.fr:=by cases m<;>simp[aI]at e1 e2 ⊢
   rw[e]at r;exact qQ od hd hp r
def j4(K:Uw)(r:List V→Hp→VK→Prop)(g:List (M×D)→Us):Prop :=
 ∀H₀ O H vs aF Q m d,(∀a,O a→∃o,H a=some o)→(∀a o,H₀ a=some o→∃o',H a=some o')→fB K H₀ O HE H aF vs→g aF=some (m,d)→(∀v H',aB H H'→Val K H₀ O H H' m d v→Q v H')→r vs H Q
abbrev bY(g:List (M×D)→Us)(fs:Um):Uq:=λe=>(fs e).bind g
def Ph{r:List V→Hp→VK→Prop}{g:List (M×D)→Us}{ta:TA}{fs:Um}(hr:j4 K r g)(ha:gZ K ta fs):JT K (uB r ta) (bY g fs):=by
 intro H₀ O H σ env Q m d R h q;let⟨aF,e,h⟩:=ak h;refine ha H₀ O H σ env _ aF R e λvs H1 s1 h1=>?_;let R1:=R.keep s1;exact hr H₀ O H1 vs aF Q m d R1.od R1.hd (mh (λ_ _ z=>z.h0) h1) h λv H3 s3 h3=>q v H3 (s1.trans s3) (h3.hb λa z=>s1.free z)
def fB.one{Hb:Hp}{a:M×D}{vs:List V}(h:fB K H₀ O Hb H [a] vs):∃v,vs=[v]∧Val K H₀ O Hb H a.1 a.2 v:=by
 cases h with|cons q t=>cases t;exact⟨_,rfl,q⟩
def fB.two{Hb:Hp}{a b:M×D}{vs:List V}(h:fB K H₀ O Hb H [a,b] vs):∃v w,vs=[v,w]∧Val K H₀ O Hb H a.1 a.2 v∧Val K H₀ O Hb H b.1 b.2 w:=by
 cases h with|cons q t=>cases t with|cons q' t=>cases t;exact⟨_,_,rfl,q,q'⟩
abbrev cA:List (M×D)→Us
 |[(_,.lst ds)]=>some (.fr,.int ds.length)
 |[(_,.tup ds)]=>some (.fr,.int ds.length)
 |[(_,.str z)]=>if z.length≤sizeLine then some (.fr,.int z.length)else none
 |_=>none
def Kz:j4 K (λxs H Q=>∃x n,xs=[x]∧wY K x H n∧Q (.int n) H) cA:=by
 intro H₀ O H vs aF Q m d _ _ hv h q;unfold cA at h;split at h
 ·cases h;let⟨v,rfl,hw⟩:=hv.one;let⟨a,xs,rfl,r,s⟩:=hw.lst;exact⟨_,_,rfl,.inl ⟨xs,r,s.len.symm⟩,q _ H (aB.refl H) jG⟩
 ·cases h;let⟨v,rfl,hw⟩:=hv.one;let⟨a,xs,rfl,r,s⟩:=hw.tup;exact⟨_,_,rfl,.inr ⟨xs,r,s.len.symm⟩,q _ H (aB.refl H) jG⟩
 ·split at h
  ·rename_i hz;cases h;let⟨v,rfl,hw⟩:=hv.one;obtain rfl:=hw.str;exact⟨_,_,rfl,⟨hz,rfl⟩,q _ H (aB.refl H) jG⟩
  ·cases h
 ·cases h
abbrev oB:List (M×D)→Us
 |[(_,.int i)]=>some (.fr,.int i)
 |[(_,.bl k)]=>some (.fr,.int (if k then 1 else 0))
 |_=>none
def KC:j4 K (λxs H Q=>(∃i,xs=[.int i]∧Q (.int i) H)∨∃k,xs=[.bl k]∧Q (.int (if k then 1 else 0)) H) oB:=by
 intro H₀ O H vs aF Q m d _ _ hv h q;unfold oB at h;split at h
 ·cases h;let⟨v,rfl,hw⟩:=hv.one;obtain rfl:=hw.int;exact .inl ⟨_,rfl,q _ H (aB.refl H) jG⟩
 ·cases h;let⟨v,rfl,hw⟩:=hv.one;obtain rfl:=hw.bl;exact .inr ⟨_,rfl,q _ H (aB.refl H) jG⟩
 ·cases h
def ml:List (M×D)→Us
 |[(m,.lst ds)]=>pG m ds
 |[(m,.tup ds)]=>pG m ds
 |_=>none
def Jg:j4 K (λxs H Q=>∃p ys,xs=[.ref p]∧(bf K H p ys∨aQ K H p ys)∧∀l,H l=none→Q (.ref l) (upd H l (.lst ys))) ml:=by
 intro H₀ O H vs aF Q m d od hd hv h q;unfold ml at h;split at h
 ·let⟨v,rfl,hw⟩:=hv.one;let⟨a,xs,rfl,r,s⟩:=hw.lst;exact⟨_,_,rfl,.inl r,λl hl=>q _ _ (bZ hl) (vP od hd hl s h)⟩
 ·let⟨v,rfl,hw⟩:=hv.one;let⟨a,xs,rfl,r,s⟩:=hw.tup;exact⟨_,_,rfl,.inr r,λl hl=>q _ _ (bZ hl) (vP od hd hl s h)⟩
 ·cases h
def yO(K:Uw)(t:TO)(f:Ev→Option (Option Int)):Prop :=
 ∀H₀ O H σ env Q b,b9 K H₀ O H σ env→f env=some b→(∀H',aB H H'→Q b H')→t σ H Q
abbrev xk:Ev→Option (Option Int):=λ_=>some none
abbrev iO:M×D→Option Int
 | (_,.int i)=>some i
 |_=>none
def ra{a:M×D}{b:Int}(h:iO a=some b):a.2=.int b:=by
 let⟨m,d⟩:=a;cases d<;>simp only[iO]at h<;>first | (cases h;rfl)|cases h
def wK(f:Uq):Ev→Option (Option Int):=λe=>(f e).bind λx=>(iO x).map some
def Jh:yO K Bs xk:=by
 intro H₀ O H σ env Q b R h q;cases h;exact q H (aB.refl H)
def Ji{t:TE}{f:Uq}(h:JT K t f):yO K (DG t) (wK f):=by
 intro H₀ O H σ env Q b R e q;let⟨a,ea,e⟩:=ak e;cases ei:iO a with
 |none=>rw[ei]at e;cases e
 |some i =>
  rw[ei]at e;cases e;refine h H₀ O H σ env _ a.1 a.2 R ea λx H1 s1 h1=>?_;rw[ra ei]at h1;exact⟨i,h1.int,q H1 s1⟩
abbrev Rb(g:M×D→Option Int→Option Int→Us)(f:Uq)(l u:Ev→Option (Option Int)):Uq:=λe=>(f e).bind λx=>(l e).bind λlo=>(u e).bind λhi=>g x lo hi
abbrev mJ:M→M→M
 |.al,_=>.al
 |_,.al=>.al
 |.rb,_=>.rb
 |_,.rb=>.rb
 |_,_=>.fr
def NM.Fp{a b:M}{x:Addr}(ha:aI a≠.rb)(hb:aI b≠.rb)(h:NM H₀ O (aI a) x):NM H₀ O (aI (mJ a b)) x:=by
 cases a<;>cases b<;>first|exact h|exact h.1|exact absurd rfl ha|exact absurd rfl hb
def NM.Fq{a b:M}{x:Addr}(ha:aI a≠.rb)(hb:aI b≠.rb)(h:NM H₀ O (aI b) x):NM H₀ O (aI (mJ a b)) x:=by
 cases a<;>cases b<;>first|exact h|exact h.1|exact absurd rfl ha|exact absurd rfl hb
def fD:M×D→M×D→Us
 | (m,.lst ds),(n,.lst es)=>if aI m=.rb∨aI n=.rb then none else if ds.length+es.length≤sizeLine then pG (mJ m n) (ds++es)else none
 |_,_=>none
def rP(K:Uw):R2:=λx y H Q=>∃l b xs zs,x=.ref l∧y=.ref b∧bf K H l xs∧bf K H b zs∧xs.length+zs.length≤sizeLine∧∀p,H p=none→Q (.ref p) (upd H p (.lst (xs++zs)))
def M0:JR K (rP K) fD:=by
 intro H₀ O H x y a b Q m d od hd h1 h2 h q;let⟨ma,da⟩:=a;let⟨mb,db⟩:=b;cases da<;>try (cases h;done)
 cases db<;>try (cases h;done)
 simp only[fD]at h;split at h
 ·cases h
 ·rename_i hn;split at h
  ·rename_i hl;let⟨p,xs,rfl,r,s⟩:=h1.lst;let⟨p',yP,rfl,r',s'⟩:=h2.lst;let n1:aI ma≠.rb:=λz=>hn (.inl z);let n2:aI mb≠.rb:=λz=>hn (.inr z);refine⟨p,p',xs,yP,rfl,rfl,r,r',by rw[s.len,s'.len];exact hl,λl hl=>q _ _ (bZ hl) (vP od hd hl (ao.app (s.wk λ_ h _=>NM.Fp n1 n2 h) (s'.wk λ_ h _=>NM.Fq n1 n2 h)) h)⟩
  ·cases h
end
abbrev own:M→Bool
 |.bo=>true
 |.bi=>true
 |_=>false
def KD{m:M}(h:own m=true):fT m=true:=by cases m<;>first|rfl|cases h
theorem jo{α β:Type}{F:α→β→Prop}:∀{l:List α}{r:List β},l.length=r.length→(∀(j:Nat) a b,l[j]?=some a→r[j]?=some b→F a b)→Paired F l r
 |[],[],_,_=>.nil
 |a::l,b::r,e,h=>.cons (h 0 a b rfl rfl) (jo (by simpa using e) λj x y h1 h2=>h (j+1) x y (by simpa using h1) (by simpa using h2))
 |[],_::_,e,_=>by simp at e
 |_::_,[],e,_=>by simp at e
def uM(H:Hp)(σ:St)(env:Ev):Prop :=
 (∀(i j:Nat) (d d':D),env[i]?=some (some (.nb,d))→env[j]?=some (some (.nb,d'))→i=j) ∧
 ∀(i j:Nat) (d:D) (x:M×D) (p q:Addr) (xs:List V),env[i]?=some (some (.nb,d))→σ[i]?=some (some (.ref p))→env[j]?=some (some x)→own x.1=true→σ[j]?=some (some (.ref q))→H p=some (.lst xs)→q≠p∧V.ref q∉xs
structure Rel (K:Uw)(H₀:Hp)(I:Nat→Uz)(O:Uv)(H:Hp)(σ:St)(env:Ev):Prop where
 e:b9 K H₀ O H σ env
 fr:∀a o,(∀i,I i≠some a)→H₀ a=some o→H a=some o
 ow:∀a,O a→(∃i,I i=some a)∨H₀ a=none
 ba:∀(i:Nat) d p,env[i]?=some (some (.bi,d))→σ[i]?=some (some (.ref p))→I i=some p
 dj:∀(i j:Nat) (x y:M×D) (p:Addr),env[i]?=some (some x)→env[j]?=some (some y)→own x.1=true→own y.1=true→σ[i]?=some (some (.ref p))→σ[j]?=some (some (.ref p))→i=j
 nd:uM H σ env
def aH(O:Uv)(H:Hp)(O':Uv)(H':Hp):Prop:=∀a o,H a=some o→¬O a→H' a=some o∧¬O' a
inductive Fl where
 |nx (e:Ev)|bk (e:Ev)|ct (e:Ev)|rt (e:Ev) (m:M) (d:D)
noncomputable abbrev Ul:=Ev→Option Fl
def oC(K:Uw)(H₀:Hp)(I:Nat→Uz)(O:Uv)(H:Hp)(Ds:Ends):Fl→Prop
 |.nx e=>∀O' H' σ',Rel K H₀ I O' H' σ' e→aH O H O' H'→Ds.nx σ' H'
 |.bk e=>∀O' H' σ',Rel K H₀ I O' H' σ' e→aH O H O' H'→Ds.bk σ' H'
 |.ct e=>∀O' H' σ',Rel K H₀ I O' H' σ' e→aH O H O' H'→Ds.ct σ' H'
 |.rt e m d=>∀O' H' σ' v,Rel K H₀ I O' H' σ' e→aH O H O' H'→Val K H₀ O' HE H' m d v→Ds.rt v H'
def JS(K:Uw)(ts:TS)(g:Ul):Prop :=
 ∀H₀ I O H σ env Ds fl,Rel K H₀ I O H σ env→g env=some fl→oC K H₀ I O H Ds fl→ts Ds σ H
section
variable {K:Uw}{H H' H₀:Hp}{I:Nat→Uz}{O O':Uv}{σ:St}{env:Ev}
def aH.refl:aH O H O H:=λa o h n=>⟨h,n⟩
def aH.trans{O1 O2:Uv}{H1 H2:Hp}(a:aH O H O1 H1)(b:aH O1 H1 O2 H2):aH O H O2 H2:=λx o h n=>b x o (a x o h n).1 (a x o h n).2
def aH.same(s:aB H H'):aH O H O H':=λa o h n=>⟨s a o h,n⟩
def uM.keep(h:uM H σ env)(w:∀(i:Nat) d p,env[i]?=some (some (.nb,d))→σ[i]?=some (some (.ref p))→H' p=H p):uM H' σ env :=
 ⟨h.1,λi j d x p q xs h1 h2 h3 h4 h5 h6=>h.2 i j d x p q xs h1 h2 h3 h4 h5 (by rw[←w i d p h1 h2];exact h6)⟩
def b9.nest(R:b9 K H₀ O H σ env){i:Nat}{d:D}{p:Addr}(h1:env[i]?=some (some (.nb,d)))(h2:σ[i]?=some (some (.ref p))):∃(qs:List Addr) (aG:List (Ut)),d=.lst (aG.map D.lst)∧O p∧H₀ p=none∧H p=some (.lst (qs.map V.ref))∧qs.Nodup∧(∀q∈qs,O q∧H₀ q=none∧q≠p) ∧
  Paired (λq ds=>∃xs,H q=some (.lst xs)∧ao K (λa=>¬O a∧H₀ a=none) H xs ds) qs aG:=by
 let⟨v,hv,_,hm⟩:=R.at h1;rw[h2]at hv;cases hv;let⟨p',qs,aG,e,r⟩:=hm;cases e;exact⟨qs,aG,r⟩
theorem Rel.keep(R:Rel K H₀ I O H σ env)(s:aB H H'):Rel K H₀ I O H' σ env:=⟨R.e.keep s,λa o n h=>s _ _ (R.fr a o n h),R.ow,R.ba,R.dj,R.nd.keep λi d p h1 h2=>by
 let⟨qs,aG,_,_,_,e,_⟩:=R.e.nest h1 h2;rw[s _ _ e,e]⟩
abbrev Fs:M→Bool
 |.al=>true
 |.fr=>true
 |_=>false
def KG{m:M}(h:Fs m=true):fT m=true:=by cases m<;>first|rfl|cases h
def oC.pre{O1:Uv}{H1:Hp}{Ds:Ends}{fl:Fl}(s:aH O H O1 H1)(h:oC K H₀ I O H Ds fl):oC K H₀ I O1 H1 Ds fl:=by
 cases fl<;>simp only[oC]at h ⊢
 ·exactλO' H' σ' R t=>h O' H' σ' R (s.trans t)
 ·exactλO' H' σ' R t=>h O' H' σ' R (s.trans t)
 ·exactλO' H' σ' R t=>h O' H' σ' R (s.trans t)
 ·exactλO' H' σ' v R t=>h O' H' σ' v R (s.trans t)
abbrev bj:Ul:=λe=>some (.nx e)
def KH:JS K rL bj:=by
 intro H₀ I O H σ env Ds fl R h q;cases h;exact q O H σ R aH.refl
abbrev au(f g:Ul):Ul:=λe=>(f e).bind λr=>match r with
 |.nx e'=>g e'
 |.bk e'=>some (.bk e')
 |.ct e'=>some (.ct e')
 |.rt e' m d=>some (.rt e' m d)
def M3{t u:TS}{f g:Ul}(ht:JS K t f)(hu:JS K u g):JS K (jL t u) (au f g):=by
 intro H₀ I O H σ env Ds fl R h q;let⟨r,er,h⟩:=ak h;refine ht H₀ I O H σ env _ r R er ?_;cases r with
 |nx e'=>exactλO' H' σ' R' s=>hu H₀ I O' H' σ' e' Ds fl R' h (q.pre s)
 |bk e'=>cases h;exact q
 |ct e'=>cases h;exact q
 |rt e' m d=>cases h;exact q
abbrev aN(f:Uq):Ul:=λe=>(f e).bind λx=>some (.rt e x.1 x.2)
def M4{t:TE}{f:Uq}(h:JT K t f):JS K (oi t) (aN f):=by
 intro H₀ I O H σ env Ds fl R e q;let⟨x,ex,e⟩:=ak e;cases e;exact h H₀ O H σ env _ x.1 x.2 R.e ex λv H1 s1 h1=>q O H1 σ v (R.keep s1) (aH.same s1) h1.h0
abbrev aU(c:Up)(f g:Ul):Ul:=λe=>(c e).bind λb=>if b=true then f e else g e
def Pj{c:TT}{t u:TS}{fc:Up}{f g:Ul}(hc:cE K c fc)(ht:JS K t f)(hu:JS K u g):JS K (sC c t u) (aU fc f g):=by
 intro H₀ I O H σ env Ds fl R h q;let⟨b,eb,h⟩:=ak h;refine hc H₀ O H σ env _ b R.e eb λH1 s1=>?_;cases b with
 |true =>
  rw[if_pos rfl]at h ⊢;exact ht H₀ I O H1 σ env Ds fl (R.keep s1) h (q.pre (aH.same s1))
 |false =>
  rw[if_neg aL]at h ⊢;exact hu H₀ I O H1 σ env Ds fl (R.keep s1) h (q.pre (aH.same s1))
abbrev DQ:M→Option M
 |.al=>some .al
 |.fr=>some .fr
 |.un=>some .bo
 |.ut=>some .fr
 |_=>none
def kj(x:M×D):Us:=match DQ x.1 with
 |some m=>some (m,x.2)
 |none=>if x.2.bD=true then some (.fr,x.2)else none
theorem xl{α β:Type}{F:α→β→Prop}{a:α}{b:β}(q:F a b):∀{l:List α}{r:List β} (i:Nat),Paired F l r→Paired F (l.set i a) (r.set i b)
 |_,_,_,.nil=>.nil
 |_,_,0,.cons _ t=>.cons q t
 |_,_,i+1,.cons h t=>.cons h (xl q i t)
def get_set{α:Type}{l:List α}{i j:Nat}{a b:α}(h:(l.set i a)[j]?=some b):(j=i∧b=a)∨(j≠i∧l[j]?=some b):=by
 rw[uh]at h;split at h
 ·rename_i e;split at h
  ·exact .inl ⟨e.symm,(cY h).symm⟩
  ·cases h
 ·rename_i e;exact .inr ⟨λz=>e z.symm,h⟩
def Rel.kl{i:Nat}{x:M×D}{p:Addr}(R:Rel K H₀ I O H σ env)(hx:env[i]?=some (some x))(ho:own x.1=true)(hp:σ[i]?=some (some (.ref p))):O p∧Cell K (λa=>¬O a∧H₀ a=none) H p x.2:=by
 let⟨m,d⟩:=x;let⟨v,hv,n,hm⟩:=R.e.at hx;rw[hp]at hv;cases hv;cases m<;>simp only[own]at ho<;>try (cases ho;done)
 ·let⟨p',e,h1,_,c⟩:=hm;cases e;exact⟨h1,c⟩
 ·let⟨p',e,h1,c⟩:=hm;cases e;exact⟨h1,c⟩
theorem vF{F:Addr→Ut→Prop}:∀{qs:List Addr}{aG:List (Ut)}{q:Addr},Paired F qs aG→q∈qs→∃ds,F q ds
 |_,_,_,.nil,h=>nomatch h
 |_,_,_,.cons a t,h=>by
  rcases cS.mp h with rfl|h
  ·exact⟨_,a⟩
  ·exact vF t h
def Rel.set_plain{i:Nat}{m:M}{d:D}{v:V}(R:Rel K H₀ I O H σ env)(hm:own m=false)(hu:Fs m=true)(h:Val K H₀ O HE H m d v):Rel K H₀ I O H (σ.set i (some v)) (env.set i (some (m,d))):=by
 refine⟨⟨xl (λm' d' q=>?_) i R.e.sl,R.e.od,R.e.hd,R.e.on⟩,R.fr,R.ow,λi' d' p h1 p1=>?_,λi' j x y p h1 h2 o1 o2 p1 p2=>?_,⟨λi' j d1 d2 h1 h2=>?_,λi' j d1 x p q xs h1 p1 h2 o2 p2 e=>?_⟩⟩
 ·cases q;exact⟨KG hu,v,rfl,h⟩
 ·rcases get_set h1 with⟨rfl,q⟩|⟨n1,q1⟩
  ·cases q;cases hm
  ·rw[cG (λz=>n1 z.symm)]at p1;exact R.ba i' d' p q1 p1
 ·rcases get_set h1 with⟨rfl,q⟩|⟨n1,q1⟩
  ·cases q;rw[hm]at o1;cases o1
  ·rcases get_set h2 with⟨rfl,q⟩|⟨n2,q2⟩
   ·cases q;rw[hm]at o2;cases o2
   ·rw[cG (λz=>n1 z.symm)]at p1;rw[cG (λz=>n2 z.symm)]at p2;exact R.dj i' j x y p q1 q2 o1 o2 p1 p2
 ·rcases get_set h1 with⟨rfl,q⟩|⟨n1,q1⟩
  ·cases q;cases hu
  ·rcases get_set h2 with⟨rfl,q⟩|⟨n2,q2⟩
   ·cases q;cases hu
   ·exact R.nd.1 i' j d1 d2 q1 q2
 ·rcases get_set h1 with⟨rfl,q⟩|⟨n1,q1⟩
  ·cases q;cases hu
  ·rcases get_set h2 with⟨rfl,q⟩|⟨n2,q2⟩
   ·cases q;rw[hm]at o2;cases o2
   ·rw[cG (λz=>n1 z.symm)]at p1;rw[cG (λz=>n2 z.symm)]at p2;exact R.nd.2 i' j d1 x p q xs q1 p1 q2 o2 p2 e
def Rel.M5{i:Nat}{d:D}{v:V}{H1:Hp}(R:Rel K H₀ I O H σ env)(s:aB H H1)(h:Val K H₀ O H H1 .un d v):∃O',Rel K H₀ I O' H1 (σ.set i (some v)) (env.set i (some (.bo,d)))∧aH O H O' H1:=by
 let⟨p,rfl,hp,h0,ho,c⟩:=h;let np:∀a,(∃o,H a=some o)→a≠p:=λa ⟨o,e⟩=>cu e hp;let wk:∀{N:Uv}{d:D}{v:V},Rp K N H v d→Rp K (λa=>N a∧a≠p) H1 v d:=λr=>(r.wk λa n e=>⟨n,np a e⟩).keep (.same s);let pH:∀{N:Uv}{d:D}{q:Addr},Cell K N H q d→Cell K (λa=>N a∧a≠p) H1 q d:=λ{N d q} r=>by
  let⟨o,e,_⟩:=r.some;exact(r.wk λa n e=>⟨n,np a e⟩).keep (.same s) ((s _ _ e).trans e.symm)
 let⟨o,eo,Rc⟩:=c.some;refine⟨λa=>O a∨a=p,⟨⟨xl (λm' d' q=>?_) i (mh (λe x h m d q=>?_) R.e.sl),?_,?_,?_⟩,?_,?_,?_,?_,?_⟩,?_⟩
 ·cases q;exact⟨rfl,_,rfl,p,rfl,.inr rfl,h0,c.wk λa h _=>⟨λz=>z.elim h.1.1 h.2,h.1.2⟩⟩
 ·let⟨n,v,rfl,z⟩:=h m d q;refine⟨n,v,rfl,?_⟩;cases m
  ·exact(wk z).wk λa h _=>λz=>z.elim h.1 h.2
  ·exact(wk z).wk λa h _=>⟨λz=>z.elim h.1.1 h.2,h.1.2⟩
  ·cases n
  ·let⟨q,rfl,h1,h2,c'⟩:=z;exact⟨q,rfl,.inl h1,h2,(pH c').wk λa h _=>⟨λz=>z.elim h.1.1 h.2,h.1.2⟩⟩
  ·let⟨q,rfl,h1,c'⟩:=z;exact⟨q,rfl,.inl h1,(pH c').wk λa h _=>⟨λz=>z.elim h.1.1 h.2,h.1.2⟩⟩
  ·cases n
  ·let⟨q,qs,aG,e1,e2,h1,h2,h3,h4,h5,h6⟩:=z;exact⟨q,qs,aG,e1,e2,.inl h1,h2,s _ _ h3,h4,λx hx=>⟨.inl (h5 x hx).1,(h5 x hx).2⟩,jA (λx ds _ ⟨xs,a,r⟩=>⟨xs,s _ _ a,((r.wk λa n e=>(⟨n,np a e⟩:(¬O a∧H₀ a=none)∧a≠p)).keep (.same s)).wk λa h _=>⟨λz=>z.elim h.1.1 h.2,h.1.2⟩⟩) h6⟩
  ·cases n
 ·intro a ha;rcases ha with ha|rfl
  ·let⟨o,e⟩:=R.e.od a ha;exact⟨o,s _ _ e⟩
  ·exact⟨o,eo⟩
 ·exactλa o h=>let ⟨o,e⟩:=R.e.hd a o h;⟨o,s _ _ e⟩
 ·intro a u ha e;rcases ha with ha|rfl
  ·exact(R.e.keep s).on a u ha e
  ·rw[eo]at e;cases e;exact Rc
 ·exactλa o n h=>s _ _ (R.fr a o n h)
 ·intro a ha;rcases ha with ha|rfl
  ·exact R.ow a ha
  ·exact .inr h0
 ·intro i' d' p' h1 p1;rcases get_set h1 with⟨rfl,q⟩|⟨n1,q1⟩
  ·cases q
  ·rw[cG (λz=>n1 z.symm)]at p1;exact R.ba i' d' p' q1 p1
 ·intro i' j x y q h1 h2 o1 o2 p1 p2;rcases get_set h1 with⟨rfl,q1⟩|⟨n1,q1⟩
  ·rcases get_set h2 with⟨rfl,q2⟩|⟨n2,q2⟩
   ·rfl
   ·exfalso;rw[cG (λz=>n2 z.symm)]at p2;rcases get_set p1 with⟨_,z⟩|⟨z,_⟩
    ·cases z;let⟨_,c'⟩:=R.kl q2 o2 p2;let⟨o',e',_⟩:=c'.some;rw[hp]at e';cases e'
    ·exact z rfl
  ·rcases get_set h2 with⟨rfl,q2⟩|⟨n2,q2⟩
   ·exfalso;rw[cG (λz=>n1 z.symm)]at p1;rcases get_set p2 with⟨_,z⟩|⟨z,_⟩
    ·cases z;let⟨_,c'⟩:=R.kl q1 o1 p1;let⟨o',e',_⟩:=c'.some;rw[hp]at e';cases e'
    ·exact z rfl
   ·rw[cG (λz=>n1 z.symm)]at p1;rw[cG (λz=>n2 z.symm)]at p2;exact R.dj i' j x y q q1 q2 o1 o2 p1 p2
 ·refine⟨λi' j d1 d2 h1 h2=>?_,λi' j d1 x p' q xs h1 p1 h2 o2 p2 e=>?_⟩
  ·rcases get_set h1 with⟨rfl,z⟩|⟨n1,q1⟩
   ·cases z
   ·rcases get_set h2 with⟨rfl,z⟩|⟨n2,q2⟩
    ·cases z
    ·exact R.nd.1 i' j d1 d2 q1 q2
  ·rcases get_set h1 with⟨rfl,z⟩|⟨n1,q1⟩
   ·cases z
   ·rw[cG (λz=>n1 z.symm)]at p1;let⟨qs,aG,_,_,_,e3,_,_,h6⟩:=R.e.nest q1 p1;rw[s _ _ e3]at e;cases e;rcases get_set h2 with⟨rfl,z⟩|⟨n2,q2⟩
    ·rcases get_set p2 with⟨_,z⟩|⟨z,_⟩
     ·cases z;refine⟨(λz=>by rw[z,e3]at hp;cases hp),λz=>?_⟩;let⟨a,ha,ea⟩:=bV.mp z;cases ea;let⟨ds,xs,hx,_⟩:=vF h6 ha;rw[hp]at hx;cases hx
     ·exact absurd rfl z
    ·rw[cG (λz=>n2 z.symm)]at p2;exact R.nd.2 i' j d1 x p' q _ q1 p1 q2 o2 p2 e3
 ·intro a o h n;exact⟨s a o h,λz=>z.elim n (np a ⟨o,h⟩)⟩
def Rel.give{i:Nat}{x y:M×D}{v:V}{H1:Hp}(R:Rel K H₀ I O H σ env)(s:aB H H1)(h:Val K H₀ O H H1 x.1 x.2 v)(e:kj x=some y):∃O',Rel K H₀ I O' H1 (σ.set i (some v)) (env.set i (some y))∧aH O H O' H1:=by
 let⟨m,d⟩:=x;unfold kj at e;cases m<;>simp only[DQ]at e
 ·cases e;exact⟨O,(R.keep s).set_plain rfl rfl h,.same s⟩
 ·cases e;exact⟨O,(R.keep s).set_plain rfl rfl h,.same s⟩
 ·cases e;exact R.M5 s h
 ·split at e
  ·rename_i hi;cases e;exact⟨O,(R.keep s).set_plain rfl rfl (show Rp K _ H1 v d from h.weak.im hi),.same s⟩
  ·cases e
 ·split at e
  ·rename_i hi;cases e;exact⟨O,(R.keep s).set_plain rfl rfl (show Rp K _ H1 v d from h.weak.im hi),.same s⟩
  ·cases e
 ·split at e
  ·rename_i hi;cases e;exact⟨O,(R.keep s).set_plain rfl rfl (show Rp K _ H1 v d from h.weak.im hi),.same s⟩
  ·cases e
 ·split at e
  ·rename_i hi;cases e;exact⟨O,(R.keep s).set_plain rfl rfl (show Rp K _ H1 v d from h.weak.im hi),.same s⟩
  ·cases e
 ·cases e;exact⟨O,(R.keep s).set_plain rfl rfl (show Rp K _ H1 v d from h.bI rfl),.same s⟩
def aE(i:Nat)(f:Uq):Ul:=λe=>(f e).bind λx=>(kj x).bind λy=>some (.nx (e.set i (some y)))
def CV{i:Nat}{t:TE}{f:Uq}(h:JT K t f):JS K (gJ t (ft i)) (aE i f):=by
 intro H₀ I O H σ env Ds fl R e q;let⟨x,ex,e⟩:=ak e;let⟨y,ey,e⟩:=ak e;cases e;refine h H₀ O H σ env _ x.1 x.2 R.e ex λv H1 s1 h1=>?_;let⟨O',R',st⟩:=R.give (i:=i) s1 h1 ey;exact q O' H1 _ R' st
def Rel.mut{i:Nat}{m:M}{d d':D}{p:Addr}{o:HO}(R:Rel K H₀ I O H σ env)(hx:env[i]?=some (some (m,d)))(ho:own m=true)(hp:σ[i]?=some (some (.ref p)))
  (c:Cell K (λa=>¬O a∧H₀ a=none) (upd H p o) p d'):Rel K H₀ I O (upd H p o) σ (env.set i (some (m,d')))∧aH O H O (upd H p o):=by
 let⟨hO,c0⟩:=R.kl hx ho hp;let⟨o0,e0,nt⟩:=c0.some;let kp:∀{N:Uv},(∀a,N a→¬O a)→Keeps N H (upd H p o):=λw a u h z=>by
  let dD:a≠p:=by
   rintro rfl;rcases z with z|z
   ·exact w _ z hO
   ·rw[e0]at h;cases h;exact nt z
  rw[aD dD];exact h
 let hi:i<env.length:=by
  rcases ui i env.length with h|h
  ·exact h
  ·rw[yc h]at hx;cases hx
 let hσ:σ=σ.set i (some (.ref p)):=by
  refine List.ext_getElem? λj=>?_;rw[uh];split
  ·rename_i z;subst z;let hl:i<σ.length:=by rw[←cf R.e.sl];exact hi
   rw[if_pos hl,hp]
  ·rfl
 refine⟨⟨⟨?_,?_,?_,?_⟩,?_,R.ow,?_,?_,?_⟩,?_⟩
 ·
  let base:∀(j:Nat) (e:Us) (x:Option V),(env.set i (some (m,d')))[j]?=some e→σ[j]?=some x→∀m d,e=some (m,d)→fT m=true∧∃v,x=some v∧Val K H₀ O HE (upd H p o) m d v:=by
   intro j e x he pI m1 d1 q;subst q;rcases get_set he with⟨rfl,q⟩|⟨nj,q⟩
   ·cases q;rw[hp]at pI;cases pI;refine⟨KD ho,_,rfl,?_⟩;cases m<;>simp only[own]at ho<;>try (cases ho;done)
    ·let⟨v,hv,n,hm⟩:=R.e.at hx;rw[hp]at hv;cases hv;let⟨p',e,h1,h2,_⟩:=hm;cases e;exact⟨p,rfl,h1,h2,c⟩
    ·exact⟨p,rfl,hO,c⟩
   ·let⟨v,hv,n,hm⟩:=R.e.at q;rw[pI]at hv;cases hv;refine⟨n,v,rfl,?_⟩;let nq:∀{p':Addr},own m1=true→v=.ref p'→p'≠p:=λ{p'} yQ ev z=>by
     subst ev;subst z;exact nj (R.dj j i _ _ p' q hx yQ ho pI hp)
    cases m1
    ·exact Rp.keep (kp λa h=>h) hm
    ·exact Rp.keep (kp λa h=>h.1) hm
    ·cases n
    ·let⟨p',rfl,h1,h2,c'⟩:=hm;exact⟨p',rfl,h1,h2,c'.keep (kp λa h=>h.1) (aD (nq rfl rfl))⟩
    ·let⟨p',rfl,h1,c'⟩:=hm;exact⟨p',rfl,h1,c'.keep (kp λa h=>h.1) (aD (nq rfl rfl))⟩
    ·cases n
    ·let⟨p',qs,aG,rfl,e2,h1,h2,h3,h4,h5,h6⟩:=hm;let⟨z1,z2⟩:=R.nd.2 j i d1 (m,d) p' p _ q pI hx ho hp h3;refine⟨p',qs,aG,rfl,e2,h1,h2,by rw[aD (λz=>z1 z.symm)];exact h3,h4,h5,jA (λx ds hx ⟨xs,a,r⟩=>⟨xs,?_,r.keep (kp λa h=>h.1)⟩) h6⟩;rw[aD (λz=>z2 (bV.mpr ⟨x,hx,by rw[z]⟩))];exact a
    ·cases n
  refine jo ?_ λj e x h1 h2=>base j e x h1 h2;rw[gS];exact cf R.e.sl
 ·intro a ha;by_cases z:a=p
  ·subst z;exact⟨o,bh⟩
  ·rw[aD z];exact R.e.od a ha
 ·intro a u h;by_cases z:a=p
  ·subst z;exact⟨o,bh⟩
  ·rw[aD z];exact R.e.hd a u h
 ·intro a u ha e;by_cases z:a=p
  ·subst z;let⟨o1,e1,n1⟩:=c.some;rw[e]at e1;cases e1;exact n1
  ·rw[aD z]at e;exact R.e.on a u ha e
 ·intro a u n h;let z:a≠p:=by
   rintro rfl;rcases R.ow a hO with⟨i,q⟩|q
   ·exact n i q
   ·rw[h]at q;cases q
  rw[aD z];exact R.fr a u n h
 ·intro i' e' p' h1 p1;rcases get_set h1 with⟨rfl,q⟩|⟨n1,q1⟩
  ·cases q;exact R.ba _ d p' hx p1
  ·exact R.ba i' e' p' q1 p1
 ·intro i' j x y q h1 h2 o1 o2 p1 p2;let f:∀{k:Nat}{x:M×D},(env.set i (some (m,d')))[k]?=some (some x)→own x.1=true→∃x',env[k]?=some (some x')∧own x'.1=true:=λ{k x} h o=>by
   rcases get_set h with⟨rfl,q⟩|⟨_,q⟩
   ·exact⟨_,hx,ho⟩
   ·exact⟨x,q,o⟩
  let⟨x',a1,b1⟩:=f h1 o1;let⟨y',a2,b2⟩:=f h2 o2;exact R.dj i' j x' y' q a1 a2 b1 b2 p1 p2
 ·let g:∀{k:Nat}{d1:D},(env.set i (some (m,d')))[k]?=some (some (.nb,d1))→env[k]?=some (some (.nb,d1)):=λ{k d1} h=>by
   rcases get_set h with⟨rfl,q⟩|⟨_,q⟩
   ·cases q;cases ho
   ·exact q
  refine⟨λi' j d1 d2 h1 h2=>R.nd.1 i' j d1 d2 (g h1) (g h2),λi' j d1 x p' q xs h1 p1 h2 o2 p2 e=>?_⟩;let⟨qs,aG,_,_,_,e3,_⟩:=R.e.nest (g h1) p1;let⟨z1,_⟩:=R.nd.2 i' i d1 (m,d) p' p _ (g h1) p1 hx ho hp e3;rw[aD (λz=>z1 z.symm)]at e;rcases get_set h2 with⟨rfl,z⟩|⟨_,z⟩
  ·cases z;exact R.nd.2 i' j d1 (m,d) p' q xs (g h1) p1 hx ho p2 e
  ·exact R.nd.2 i' j d1 x p' q xs (g h1) p1 z o2 p2 e
 ·intro a u h n;let z:a≠p:=by rintro rfl;exact n hO
  exact⟨by rw[aD z];exact h,n⟩
end
section
variable {K:Uw}{H H' H₀:Hp}{I:Nat→Uz}{O O':Uv}{σ:St}{env:Ev}
def eJ(i:Nat)(e:Ev):Option (M×Ut):=match e[i]? with
 |some (some (m,.lst ds))=>if own m=true then some (m,ds)else none
 |_=>none
def BE{i:Nat}{e:Ev}{m:M}{ds:Ut}(h:eJ i e=some (m,ds)):e[i]?=some (some (m,.lst ds))∧own m=true:=by
 unfold eJ at h;split at h
 ·rename_i e;split at h
  ·cases h;exact⟨e,by assumption⟩
  ·cases h
 ·cases h
theorem Rel.lst{i:Nat}{m:M}{ds:Ut}(R:Rel K H₀ I O H σ env)(h:eJ i env=some (m,ds)):∃p xs,σ[i]?=some (some (.ref p))∧O p∧H p=some (.lst xs)∧ao K (λa=>¬O a∧H₀ a=none) H xs ds:=by
 let⟨e,o⟩:=BE h;let⟨v,hv,n,hm⟩:=R.e.at e;cases m<;>simp only[own]at o<;>try (cases o;done)
 ·let⟨p,rfl,h1,h2,xs,c,r⟩:=hm;exact⟨p,xs,hv,h1,c,r⟩
 ·let⟨p,rfl,h1,xs,c,r⟩:=hm;exact⟨p,xs,hv,h1,c,r⟩
theorem ao.upd{xs:List V}{ds:Ut}{p:Addr}{o:HO}{o0:HO}(hO:O p)(h0:H p=some o0)(nt:¬fS o0)(r:ao K (λa=>¬O a∧H₀ a=none) H xs ds):ao K (λa=>¬O a∧H₀ a=none) (L2.upd H p o) xs ds:=by
 refine r.keep λa u e z=>?_;let dD:a≠p:=by
  rintro rfl;rcases z with z|z
  ·exact z.1 hO
  ·rw[h0]at e;cases e;exact nt z
 rw[aD dD];exact e
def Rel.xm{i:Nat}{m:M}{ds:Ut}{p:Addr}{xs ys:List V}{es:Ut}(R:Rel K H₀ I O H σ env)(h:eJ i env=some (m,ds))(hp:σ[i]?=some (some (.ref p)))(hx:H p=some (.lst xs))(r:ao K (λa=>¬O a∧H₀ a=none) H ys es) :
  Rel K H₀ I O (L2.upd H p (.lst ys)) σ (env.set i (some (m,.lst es)))∧aH O H O (L2.upd H p (.lst ys)):=by
 let⟨e,o⟩:=BE h;let hO:=(R.kl e o hp).1;exact R.mut e o hp ⟨ys,bh,r.upd hO hx (λz=>z)⟩
def dM(i:Nat)(f:Uq):Ul:=λe=>(f e).bind λx=>if bI x.1 x.2=true then (eJ i e).bind λy=>if y.2.length<sizeLine then some (.nx (e.set i (some (y.1,.lst (y.2++[x.2])))))else none else none
def M6{i:Nat}{t:TE}{f:Uq}(h:JT K t f):JS K (km (jX K "list" nJ (eD i) (fu t fA))) (dM i f):=by
 intro H₀ I O H σ env Ds fl R e q;let⟨x,ex,e⟩:=ak e;split at e
 ·rename_i hs;let⟨⟨m,ds⟩,ey,e⟩:=ak e;split at e
  ·rename_i hl;cases e;let⟨p,xs,hp,hO,hx,r⟩:=R.lst ey;refine⟨.ref p,hp,.inl ⟨rfl,xs,.inl (.inl hx)⟩,?_⟩;refine h H₀ O H σ env _ x.1 x.2 R.e ex λv H1 s1 h1=>?_;refine⟨p,xs,v,rfl,rfl,s1 _ _ hx,by rw[r.len];exact hl,?_⟩;let R1:=R.keep s1;let⟨R2,st⟩:=R1.xm (ys:=xs++[v]) (es:=ds++[x.2]) ey hp (s1 _ _ hx) ((r.keep (.same s1)).app (.cons (h1.bI hs) .nil));exact q O _ σ R2 ((aH.same s1).trans st)
  ·cases e
 ·cases e
def g8(i:Nat)(fk fe:Uq):Ul:=λe=>(fe e).bind λx=>(fk e).bind λk=>(iO k).bind λk=>if bI x.1 x.2=true then (eJ i e).bind λy=>(cM y.2.length k).bind λj=>some (.nx (e.set i (some (y.1,.lst (y.2.set j x.2)))))else none
def Jj{i:Nat}{t tk:TE}{f fk:Uq}(h:JT K t f)(hk:JT K tk fk):JS K (gJ t (Ek (eD i) tk DH)) (g8 i fk f):=by
 intro H₀ I O H σ env Ds fl R e q;let⟨x,ex,e⟩:=ak e;let⟨k,ek,e⟩:=ak e;let⟨k',Rf,e⟩:=ak e;split at e
 ·rename_i hs;let⟨⟨m,ds⟩,ey,e⟩:=ak e;let⟨j,ej,e⟩:=ak e;cases e;let⟨p,xs,hp,hO,hx,r⟩:=R.lst ey;refine h H₀ O H σ env _ x.1 x.2 R.e ex λv H1 s1 h1=>?_;refine⟨.ref p,hp,?_⟩;refine hk H₀ O H1 σ env _ k.1 k.2 (R.keep s1).e ek λw H2 s2 h2=>?_;rw[ra Rf]at h2;let s:=s1.trans s2;refine⟨p,xs,k',j,rfl,h2.int,s _ _ hx,by rw[r.len];exact ej,?_⟩;let⟨R2,st⟩:=(R.keep s).xm (ys:=xs.set j v) (es:=ds.set j x.2) ey hp (s _ _ hx) ((r.keep (.same s)).set ((h1.keep s2).bI hs) j);exact q O _ σ R2 ((aH.same s).trans st)
 ·cases e
def Tv(j i:Nat):Ul:=λe=>(eJ i e).bind λy=>(y.2[y.2.length-1]?).bind λd=>some (.nx ((e.set i (some (y.1,.lst y.2.dropLast))).set j (some (.fr,d))))
abbrev ck(i:Nat)(e:Ev):Ev:=match e[i]? with
 |some (some (.bo,d))=>e.set i (some (.fr,d))
 |_=>e
def dq(i:Nat)(g:Ul):Ul:=λe=>g (ck i e)
set_option tactic.hygienic true in
theorem Rel.ck{i:Nat}(R:Rel K H₀ I O H σ env):∃O',Rel K H₀ I O' H σ (J.ck i env)∧aH O H O' H:=by
 unfold J.ck;split
 ·rename_i d e;let⟨v,hv,n,p,rfl,hO,h0,c⟩:=R.e.at e;let hi:i<env.length:=by
   rcases ui i env.length with h|h
   ·exact h
   ·rw[yc h]at e;cases e
  let W:∀{a:Addr},¬O a→¬(O a∧a≠p):=λh z=>h z.1;refine⟨λa=>O a∧a≠p,⟨⟨?_,λa h=>R.e.od a h.1,R.e.hd,λa o h=>R.e.on a o h.1⟩,R.fr,λa h=>R.ow a h.1,?_,?_,?_⟩,λa o h n=>⟨h,W n⟩⟩
  ·let base:∀(j:Nat) (y:Us) (x:Option V),(env.set i (some (.fr,d)))[j]?=some y→σ[j]?=some x→∀m d,y=some (m,d)→fT m=true∧∃v,x=some v∧Val K H₀ (λa=>O a∧a≠p) HE H m d v:=by
    intro j y x hy hx m1 d1 q;subst q;rcases get_set hy with⟨rfl,q⟩|⟨nj,q⟩
    ·cases q;rw[hv]at hx;cases hx;exact⟨rfl,_,rfl,(c.wk λa h _=>(⟨W h.1,h.2⟩:¬(O a∧a≠p)∧H₀ a=none)).rp ⟨λz=>z.2 rfl,h0⟩⟩
    ·let⟨v,uN,n1,hm⟩:=R.e.at q;rw[hx]at uN;cases uN;refine⟨n1,v,rfl,?_⟩;let nq:∀{p':Addr},own m1=true→v=.ref p'→p'≠p:=λ{p'} yQ ev z=>by
      subst ev;subst z;exact nj (R.dj j i _ _ p' q e yQ rfl hx hv)
     cases m1
     ·exact Rp.wk (λa h _=>W h) hm
     ·exact Rp.wk (λa h _=>⟨W h.1,h.2⟩) hm
     ·cases n1
     ·let⟨p',rfl,h1,h2,c'⟩:=hm;exact⟨p',rfl,⟨h1,nq rfl rfl⟩,h2,c'.wk λa h _=>⟨W h.1,h.2⟩⟩
     ·let⟨p',rfl,h1,c'⟩:=hm;exact⟨p',rfl,⟨h1,nq rfl rfl⟩,c'.wk λa h _=>⟨W h.1,h.2⟩⟩
     ·cases n1
     ·let⟨p',qs,aG,rfl,e2,h1,h2,h3,h4,h5,h6⟩:=hm;let⟨z1,z2⟩:=R.nd.2 j i d1 (.bo,d) p' p _ q hx e rfl hv h3;exact⟨p',qs,aG,rfl,e2,⟨h1,λz=>z1 z.symm⟩,h2,h3,h4,λx hx=>⟨⟨(h5 x hx).1,λz=>z2 (bV.mpr ⟨x,hx,by rw[z]⟩)⟩,(h5 x hx).2⟩,jA (λx ds _ ⟨xs,a,r⟩=>⟨xs,a,r.wk λa h _=>⟨W h.1,h.2⟩⟩) h6⟩
     ·cases n1
   refine jo ?_ λj e x h1 h2=>base j e x h1 h2;rw[gS];exact cf R.e.sl
  ·intro i' d' p' h1 p1;rcases get_set h1 with⟨rfl,z⟩|⟨_,z1⟩
   ·cases z
   ·exact R.ba i' d' p' z1 p1
  ·intro i' j x y q h1 h2 o1 o2 p1 p2;rcases get_set h1 with⟨rfl,z⟩|⟨_,z1⟩
   ·cases z;cases o1
   ·rcases get_set h2 with⟨rfl,z⟩|⟨_,z2⟩
    ·cases z;cases o2
    ·exact R.dj i' j x y q z1 z2 o1 o2 p1 p2
  ·refine⟨λi' j d1 d2 h1 h2=>?_,λi' j d1 x p' q xs h1 p1 h2 o2 p2 e'=>?_⟩
   ·rcases get_set h1 with⟨rfl,z⟩|⟨_,z1⟩
    ·cases z
    ·rcases get_set h2 with⟨rfl,z⟩|⟨_,z2⟩
     ·cases z
     ·exact R.nd.1 i' j d1 d2 z1 z2
   ·rcases get_set h1 with⟨rfl,z⟩|⟨_,z1⟩
    ·cases z
    ·rcases get_set h2 with⟨rfl,z⟩|⟨_,z2⟩
     ·cases z;cases o2
     ·exact R.nd.2 i' j d1 x p' q xs z1 p1 z2 o2 p2 e'
 ·exact⟨O,R,aH.refl⟩
def M7{i:Nat}{t:TS}{g:Ul}(h:JS K t g):JS K t (dq i g):=by
 intro H₀ I O H σ env Ds fl R e q;let⟨O',R',st⟩:=R.ck (i:=i);exact h H₀ I O' H σ _ Ds fl R' e (q.pre st)
def Rp.Rg{N:Uv}{v:V}{d:D}{O2:Uv}{H2:Hp}(on:∀a o,O a→H a=some o→¬fS o)(st:aH O H O2 H2)(w:∀a,N a→¬O a)(r:Rp K N H v d):Rp K (λa=>N a∧¬O2 a) H2 v d:=by
 refine(Rp.wk (N':=λa=>N a∧¬O2 a) (λa n ⟨o,e⟩=>⟨n,(st a o e (w a n)).2⟩) r).keep λa o e z=>?_;refine(st a o e ?_).1;rcases z with z|z
 ·exact w a z.1
 ·exactλh=>on a o h e z
structure iP (K:Uw)(H₀:Hp)(O:Uv)(J:It)(H:Hp)(m:M)(ds:Ut):Prop where
 go:∀O2 H2 i,aH O H O2 H2→i<ds.length→J.go i H2
 gW:∀O2 H2 i x H3,aH O H O2 H2→i<ds.length→J.gW i H2 x H3→aB H2 H3∧∃d,ds[i]?=some d∧Val K H₀ O2 HE H3 m d x
 stop:∀O2 H2,aH O H O2 H2→J.stop ds.length H2
abbrev du:M→Bool
 |.al=>true
 |.fr=>true
 |_=>false
def JI(K:Uw)(wi:TI)(it:Ev→Option (M×Ut)):Prop :=
 ∀H₀ O H σ env R m ds,b9 K H₀ O H σ env→it env=some (m,ds)→(∀J H',aB H H'→du m=true→iP K H₀ O J H' m ds→R J H')→wi σ H R
abbrev iB:M→Option M
 |.al=>some .al
 |.fr=>some .fr
 |.un=>some .fr
 |_=>none
def cN(f:Uq):Ev→Option (M×Ut):=λe=>(f e).bind λx=>match x.2 with
 |.lst ds=>(iB x.1).map λm=>(m,ds)
 |_=>none
def BF{m n:M}{ds:Ut}{v:V}{Hb:Hp}(e:iB m=some n)(h:Val K H₀ O Hb H m (.lst ds) v):du n=true∧∃a xs,v=.ref a∧((Rd H a (.lst xs)∧¬O a)∨uJ K a xs)∧ao K (NM H₀ O n) H xs ds:=by
 cases m<;>simp only[iB]at e<;>cases e
 ·cases h with
  |lst r n q=>exact⟨rfl,_,_,rfl,.inl ⟨r,n⟩,q⟩
  |lstK r q=>exact⟨rfl,_,_,rfl,.inr r,q⟩
 ·cases h with
  |lst r n q=>exact⟨rfl,_,_,rfl,.inl ⟨r,n.1⟩,q⟩
  |lstK r q=>exact⟨rfl,_,_,rfl,.inr r,q⟩
 ·let⟨p,rfl,_,_,h2,xs,q,r⟩:=h;exact⟨rfl,_,_,rfl,.inl ⟨.inl q,h2⟩,r.wk λa h _=>h.1⟩
def NM.no{n:M}{a:Addr}(e:du n=true)(h:NM H₀ O n a):¬O a:=by
 cases n<;>first|exact h|exact h.1|cases e
def vQ{n:M}{d:D}{v:V}{O2:Uv}{H2:Hp}(e:du n=true)(on:∀a o,O a→H a=some o→¬fS o)(st:aH O H O2 H2)(r:Rp K (NM H₀ O n) H v d):Val K H₀ O2 HE H2 n d v:=by
 let z:=Rp.Rg on st (λa h=>NM.no e h) r;cases n
 ·exact z.wk λa h _=>h.2
 ·exact z.wk λa h _=>⟨h.2,h.1.2⟩
 ·cases e
 ·cases e
 ·cases e
 ·cases e
 ·cases e
 ·cases e
def H0{a:Addr}{xs:List V}{ds:Ut}{n:M}(e:du n=true)(on:∀a o,O a→H a=some o→¬fS o)(hr:(Rd H a (.lst xs)∧¬O a)∨uJ K a xs)(r:ao K (NM H₀ O n) H xs ds):iP K H₀ O (yr K a) H n ds:=by
 let st:∀{O2:Uv}{H2:Hp},aH O H O2 H2→bf K H2 a xs:=λ{O2 H2} s=>by
  rcases hr with⟨h|⟨o,h⟩,ha⟩|h
  ·exact .inl (.inl (s _ _ h ha).1)
  ·exact .inl (.inr ⟨o,(s _ _ h ha).1⟩)
  ·exact .inr h
 refine⟨λO2 H2 i s hi=>?_,λO2 H2 i x H3 s hi y=>?_,λO2 H2 s=>⟨xs,st s,by rw[r.len];exact aK _⟩⟩
 ·exact⟨xs,xs[i]'(by rw[r.len];exact hi),st s,by simp⟩
 ·let⟨rfl,y⟩:=y;let y:=y xs (st s);let⟨v,hv,rv⟩:=r.get (i:=i) (d:=ds[i]) (by simp[hi]);rw[y]at hv;cases hv;exact⟨aB.refl _,ds[i],by simp[hi],vQ e on s rv⟩
def BG{t:TE}{f:Uq}(h:JT K t f):JI K (rN K t) (cN f):=by
 intro H₀ O H σ env R m ds Re e q;let⟨⟨m0,d0⟩,ex,e⟩:=ak e;cases d0<;>simp only at e<;>try (cases e;done)
 cases em:iB m0 with
 |none=>rw[em]at e;cases e
 |some n =>
  rw[em]at e;cases e;refine h H₀ O H σ env _ _ _ Re ex λv H1 s1 h1=>?_;let⟨e1,a,xs,rfl,hr,r⟩:=BF em h1;exact⟨a,rfl,⟨xs,hr.elim (λz=>.inl z.1) .inr⟩,q _ H1 s1 e1 (H0 e1 (Re.keep s1).on hr r)⟩
def Jk{a:Addr}{xs:List V}{ds:Ut}{n:M}(e:du n=true)(on:∀a o,O a→H a=some o→¬fS o)(hr:aQ K H a xs)(r:ao K (NM H₀ O n) H xs ds):iP K H₀ O (yt K a) H n ds:=by
 let st:∀{O2:Uv}{H2:Hp},aH O H O2 H2→aQ K H2 a xs:=λ{O2 H2} s=>by
  rcases hr with h|h
  ·exact .inl (s _ _ h λz=>on _ _ z h trivial).1
  ·exact .inr h
 refine⟨λO2 H2 i s hi=>?_,λO2 H2 i x H3 s hi y=>?_,λO2 H2 s=>⟨xs,st s,by rw[r.len];exact aK _⟩⟩
 ·exact⟨xs,xs[i]'(by rw[r.len];exact hi),st s,by simp⟩
 ·let⟨rfl,y⟩:=y;let y:=y xs (st s);let⟨v,hv,rv⟩:=r.get (i:=i) (d:=ds[i]) (by simp[hi]);rw[y]at hv;cases hv;exact⟨aB.refl _,ds[i],by simp[hi],vQ e on s rv⟩
def uO(f:Uq):Ev→Option (M×Ut):=λe=>(f e).bind λx=>match x.2 with
 |.tup ds=>(iB x.1).map λm=>(m,ds)
 |_=>none
def M8{t:TE}{f:Uq}(h:JT K t f):JI K (wW K t) (uO f):=by
 intro H₀ O H σ env R m ds Re e q;let⟨⟨m0,d0⟩,ex,e⟩:=ak e;cases d0<;>simp only at e<;>try (cases e;done)
 cases em:iB m0 with
 |none=>rw[em]at e;cases e
 |some n =>
  rw[em]at e;cases e;refine h H₀ O H σ env _ _ _ Re ex λv H1 s1 h1=>?_;let⟨a,xs,rfl,hr,r⟩:=h1.tup;let e1:aI m0=m∧du m=true:=by clear ex h1 r;cases m0<;>cases em<;>exact⟨rfl,rfl⟩
  rw[e1.1]at r;exact⟨a,rfl,⟨xs,hr⟩,q _ H1 s1 e1.2 (Jk e1.2 (Re.keep s1).on hr r)⟩
abbrev bH(lo:Int)(n:Nat):Ut:=(List.range n).map λ(k:Nat)=>.int (lo+(k:Int))
def Jl{lo:Int}{n:Nat}:iP K H₀ O (ux lo n) H .fr (bH lo n):=by
 let l:(bH lo n).length=n:=by simp[bH]
 refine⟨λO2 H2 i s hi=>by rw[l]at hi;exact hi,λO2 H2 i x H3 s hi y=>?_,λO2 H2 s=>by rw[l];exact aK n⟩;let⟨rfl,rfl⟩:=y;rw[l]at hi;exact⟨aB.refl _,.int (lo+i),by simp[bH,hi],Rp.int _⟩
def yR:(2:Int)^62=4611686018427387904:=by decide
def dw(fs:Um):Ev→Option (M×Ut):=λe=>(fs e).bind λl=>match l with
 |[(_,.int j)]=>if -4611686018427387904≤j∧j<4611686018427387904 then some (.fr,bH 0 j.toNat)else none
 |_=>none
def KJ{t:TA}{fs:Um}(h:gZ K t fs):JI K (DC t) (dw fs):=by
 intro H₀ O H σ env R m ds Re e q;let⟨l,el,e⟩:=ak e;split at e
 ·split at e
  ·rename_i hj;cases e;refine h H₀ O H σ env _ _ Re el λvs H1 s1 h1=>?_;let⟨v,rfl,hv⟩:=h1.one;obtain rfl:=hv.int;exact⟨_,rfl,by rw[yR];exact hj.1,by rw[yR];exact hj.2,q _ H1 s1 rfl Jl⟩
  ·cases e
 ·cases e
end
section
variable {K:Uw}{H H' H₀:Hp}{I:Nat→Uz}{O O':Uv}{σ:St}{env:Ev}
def JG(K:Uw)(g:TG)(fg:M×D→Ev→Option Ev):Prop :=
 ∀H₀ I O H σ env x v fE Q,Rel K H₀ I O H σ env→du (Prod.fst x)=true→Val K H₀ O HE H (Prod.fst x) x.2 v→fg x env=some fE→(∀σ',Rel K H₀ I O H σ' fE→Q σ' H)→g v σ H Q
def m8(K:Uw)(g:fL)(fg:M→Ut→Ev→Option Ev):Prop :=
 ∀H₀ I O H σ env m ds vs fE Q,Rel K H₀ I O H σ env→du m=true→ao K (NM H₀ O m) H vs ds→fg m ds env=some fE→(∀σ',Rel K H₀ I O H σ' fE→Q σ' H)→g vs σ H Q
abbrev gN(i:Nat):M×D→Ev→Option Ev:=λx e=>some (e.set i (some x))
def KL{i:Nat}:JG K (ft i) (gN i):=by
 intro H₀ I O H σ env x v fE Q R hm hv e q;cases e;let⟨m,d⟩:=x;exact q _ (R.set_plain (by cases m<;>first|rfl|cases hm) (by cases m<;>first|rfl|cases hm) hv)
abbrev fw:M→Ut→Ev→Option Ev:=λ_ ds e=>match ds with
 |[]=>some e
 |_=>none
abbrev b6(f:M×D→Ev→Option Ev)(g:M→Ut→Ev→Option Ev):M→Ut→Ev→Option Ev:=λm ds e=>match ds with
 |d::r=>(f (m,d) e).bind λe'=>g m r e'
 |[]=>none
def KN:m8 K wU fw:=by
 intro H₀ I O H σ env m ds vs fE Q R hm hv e q;cases hv with
 |nil=>cases e;exact⟨rfl,q _ R⟩
 |cons=>cases e
def Jm{g:TG}{gs:fL}{f:M×D→Ev→Option Ev}{fs:M→Ut→Ev→Option Ev}(h:JG K g f)(hs:m8 K gs fs):m8 K (rM g gs) (b6 f fs):=by
 intro H₀ I O H σ env m ds vs fE Q R hm hv e q;cases hv with
 |nil=>cases e
 |@cons v d vs ds hv r =>
  let⟨e',e1,e⟩:=ak e;refine⟨v,vs,rfl,?_⟩;let uN:Val K H₀ O HE H m d v:=by cases m<;>first|exact hv|cases hm
  exact h H₀ I O H σ env (m,d) v e' _ R hm uN e1 λσ' R'=>hs H₀ I O H σ' e' m ds vs fE Q R' hm r e q
def gT(n:Nat)(f:M→Ut→Ev→Option Ev):M×D→Ev→Option Ev:=λx e=>match x.2 with
 |.tup ds=>if ds.length=n then f (aI x.1) ds e else none
 |_=>none
def M9{n:Nat}{gs:fL}{fs:M→Ut→Ev→Option Ev}(hs:m8 K gs fs):JG K (wV K n gs) (gT n fs):=by
 intro H₀ I O H σ env x v fE Q R hm hv e q;let⟨m,d⟩:=x;cases d<;>simp only[gT]at e<;>try (cases e;done)
 split at e
 ·rename_i hl;let⟨a,xs,rfl,m7,r⟩:=hv.tup;exact⟨a,xs,rfl,m7,by rw[r.len];exact hl,hs H₀ I O H σ env (aI m) _ xs fE Q R (by cases m<;>first|rfl|cases hm) r e q⟩
 ·cases e
def gL(n:Nat)(f:M→Ut→Ev→Option Ev):M×D→Ev→Option Ev:=λx e=>match x.2 with
 |.lst ds=>if ds.length=n then f (aI x.1) ds e else none
 |_=>none
abbrev xn:M→M
 |.un=>.fr
 |.ut=>.fr
 |m=>m
def Qm(fg:M×D→Ev→Option Ev)(f:Uq):Ul:=λe=>(f e).bind λx=>if du (xn x.1)=true then (fg (xn x.1,x.2) e).bind λe'=>some (.nx e')else none
abbrev forL(g:M×D→Ev→Option Ev)(b:Ul)(m:M):Ut→Ul
 |[],e=>some (.nx e)
 |d::ds,e=>(g (m,d) e).bind λe1=>(b e1).bind λr=>match r with
  |.nx e2=>forL g b m ds e2
  |.ct e2=>forL g b m ds e2
  |.bk e2=>some (.nx e2)
  |.rt e2 m' d'=>some (.rt e2 m' d')
def b4(it:Ev→Option (M×Ut))(g:M×D→Ev→Option Ev)(b:Ul):Ul:=λe=>(it e).bind λx=>forL g b x.1 x.2 e
def CW{wi:TI}{g:TG}{tb:TS}{it:Ev→Option (M×Ut)}{fg:M×D→Ev→Option Ev}{b:Ul}(hi:JI K wi it)(hg:JG K g fg)(hb:JS K tb b):JS K (sE wi g tb) (b4 it fg b):=by
 intro H₀ I O H σ env Ds fl R e q;let⟨⟨m,ds⟩,ei,e⟩:=ak e;refine hi H₀ O H σ env _ m ds R.e ei λJ H1 s1 hm ok=>?_;let q1:=q.pre (aH.same s1);refine⟨λi n σ2 H2=>∃O2 dz,Rel K H₀ I O2 H2 σ2 dz∧aH O H1 O2 H2∧i≤ds.length∧n=ds.length-i∧forL fg b m (ds.drop i) dz=some fl,⟨_,O,env,R.keep s1,aH.refl,ik _,rfl,e⟩,?_⟩;rintro i n σ2 H2 ⟨O2,dz,R2,st,hle,rfl,ef⟩;by_cases aW:i<ds.length
 ·refine .inr ⟨ok.go O2 H2 i st aW,λσ' H'=>∃O2 dz,Rel K H₀ I O2 H' σ' dz∧aH O H1 O2 H'∧forL fg b m (ds.drop (i+1)) dz=some fl,?_,?_⟩
  ·rintro σ' H' ⟨O3,Qn,R3,aZ,Rh⟩;exact⟨ds.length-(i+1),by omega,O3,Qn,R3,aZ,aW,rfl,Rh⟩
  ·intro x H3 y;let⟨s3,d,hd,hv⟩:=ok.gW O2 H2 i x H3 st aW y;let pJ:ds.drop i=d::ds.drop (i+1):=by
    rw[yd aW];rw[fI aW]at hd;cases hd;rfl
   rw[pJ]at ef;simp only[forL]at ef;let⟨e1,g1,ef⟩:=ak ef;let⟨r,br,ef⟩:=ak ef;refine hg H₀ I O2 H3 σ2 dz (m,d) x e1 _ (R2.keep s3) hm hv g1 λσ4 R4=>?_;let uP:=st.trans (aH.same (O:=O2) s3);refine hb H₀ I O2 H3 σ4 e1 _ r R4 br ?_;cases r with
   |nx e2=>exactλO5 H5 σ5 R5 dS=>⟨O5,e2,R5,uP.trans dS,ef⟩
   |ct e2=>exactλO5 H5 σ5 R5 dS=>⟨O5,e2,R5,uP.trans dS,ef⟩
   |bk e2=>cases ef;exact(q1.pre uP)
   |rt e2 m' d'=>cases ef;exact(q1.pre uP)
 ·let hi:i=ds.length:=by omega
  subst hi;rw[ye]at ef;cases ef;exact .inl ⟨ok.stop O2 H2 st,q1 O2 H2 σ2 R2 st⟩
abbrev b0(c:Up)(b:Ul):Nat→Ul
 |0,_=>none
 |n+1,e=>(c e).bind λk=>if k=true then (b e).bind λr=>(match r with
  |.nx e2=>b0 c b n e2
  |.ct e2=>b0 c b n e2
  |.bk e2=>some (.nx e2)
  |.rt e2 m' d'=>some (.rt e2 m' d'))else some (.nx e)
theorem ql{c:Up}{b:Ul}{fl:Fl}:∀{n k:Nat}{e:Ev},n≤k→b0 c b n e=some fl→b0 c b k e=some fl
 |0,_,_,_,h=>by cases h
 |n+1,0,_,h,_=>by omega
 |n+1,k+1,e,hk,h=>by
  simp only[b0]at h ⊢;let⟨x,ex,h⟩:=ak h;rw[ex,k9];cases x with
  |false=>exact h
  |true =>
   rw[if_pos rfl]at h ⊢;let⟨r,er,h⟩:=ak h;rw[er,k9];cases r with
   |nx e2=>exact ql (by omega) h
   |ct e2=>exact ql (by omega) h
   |bk e2=>exact h
   |rt e2 m' d'=>exact h
open Classical in
def gE(c:Up)(b:Ul):Ul:=λe=>if h:∃n fl,b0 c b n e=some fl then some (Classical.choose (oS h))else none
def vy{c:Up}{b:Ul}{fl:Fl}{n:Nat}{e:Ev}(h:b0 c b n e=some fl):gE c b e=some fl:=by
 let hx:∃n fl,b0 c b n e=some fl:=⟨n,fl,h⟩;unfold gE;rw[dif_pos hx];let s:=oS (oS hx);let a:=ql (Nat.le_max_left n (Classical.choose hx)) h;let b':=ql (Nat.le_max_right n (Classical.choose hx)) s;rw[a]at b';exact b'.symm
def Hx{c:Up}{b:Ul}{fl:Fl}{e:Ev}(h:gE c b e=some fl):∃n,b0 c b n e=some fl:=by
 unfold gE at h;split at h
 ·rename_i hx;cases h;exact⟨_,oS (oS hx)⟩
 ·cases h
def Jn{c:TT}{tb:TS}{fc:Up}{b:Ul}(hc:cE K c fc)(hb:JS K tb b):JS K (v9 c tb) (gE fc b):=by
 intro H₀ I O H σ env Ds fl R e q;let⟨n,e⟩:=Hx e;refine⟨λn σ2 H2=>∃O2 dz,Rel K H₀ I O2 H2 σ2 dz∧aH O H O2 H2∧b0 fc b n dz=some fl,⟨n,O,env,R,aH.refl,e⟩,?_⟩;rintro n σ2 H2 ⟨O2,dz,R2,st,ef⟩;cases n with
 |zero=>cases ef
 |succ n =>
  simp only[b0]at ef;let⟨k,ek,ef⟩:=ak ef;refine hc H₀ O2 H2 σ2 dz _ k R2.e ek λH3 s3=>?_;let aZ:=st.trans (aH.same (O:=O2) s3);cases k with
  |false =>
   rw[if_neg aL]at ef ⊢;cases ef;exact q O2 H3 σ2 (R2.keep s3) aZ
  |true =>
   rw[if_pos rfl]at ef ⊢;let⟨r,er,ef⟩:=ak ef;refine⟨λσ' H'=>∃O2 dz,Rel K H₀ I O2 H' σ' dz∧aH O H O2 H'∧b0 fc b n dz=some fl,λσ' H' ⟨O3,e3,R3,s3,f3⟩=>⟨n,Nat.lt_succ_self n,O3,e3,R3,s3,f3⟩,?_⟩;refine hb H₀ I O2 H3 σ2 dz _ r (R2.keep s3) er ?_;cases r with
   |nx e2=>exactλO5 H5 σ5 R5 dS=>⟨O5,e2,R5,aZ.trans dS,ef⟩
   |ct e2=>exactλO5 H5 σ5 R5 dS=>⟨O5,e2,R5,aZ.trans dS,ef⟩
   |bk e2=>cases ef;exact(q.pre aZ)
   |rt e2 m' d'=>cases ef;exact(q.pre aZ)
def DS(K:Uw)(H H':Hp):M→D→V→Prop
 |.un,d,v=>∃p,v=.ref p∧H p=none∧Cell K (λa=>H a=none∧a≠p) H' p d
 |.fr,d,v=>Rp K (λa=>H a=none) H' v d
 |.ut,d,v=>cI K (λq=>H q=none) H' d v
 |_,_,_=>False
def j5(K:Uw)(n:Nat)(F:Ur):Sp:=λvs H Q _=>vs.length=n∧∃ds m d,ao K (λ_=>True) H vs ds∧F ds=some (m,d)∧∀v H',aB H H'→DS K H H' m d v→Q v H'
def out:Fl→Us
 |.nx _=>some (.fr,.non)
 |.rt _ .un d=>some (.un,d)
 |.rt _ .bo d=>some (.un,d)
 |.rt _ .fr d=>some (.fr,d)
 |.rt _ .rb d=>some (.fr,d)
 |.rt _ .nb d=>some (.fr,d)
 |.rt _ .ut d=>some (.ut,d)
 |.rt _ .al d=>if d.bD=true then some (.fr,d)else none
 |_=>none
def fn(L:Nat)(g:Ul):Ur:=λds=>(g (ds.map (λd=>some (.al,d))++List.replicate (L-ds.length) none)).bind out
def Ia{vs:List V}{ds:Ut}(r:ao K (λ_=>True) H vs ds)(k:Nat):Paired (λ(e:Us) (x:Option V)=>∀m d,e=some (m,d)→fT m=true∧∃v,x=some v∧Val K H (λ_=>False) HE H m d v) (ds.map (λd=>some (.al,d))++List.replicate k none) (vs.map some++List.replicate k none):=by
 let rep:∀k,Paired (λ(e:Us) (x:Option V)=>∀m d,e=some (m,d)→fT m=true∧∃v,x=some v∧Val K H (λ_=>False) HE H m d v) (List.replicate k none) (List.replicate k none):=λk=>by
  induction k with
  |zero=>exact .nil
  |succ k ih=>exact .cons (λm d e=>nomatch e) ih
 let go:∀{vs:List V}{ds:Ut},ao K (λ_=>True) H vs ds→Paired (λ(e:Us) (x:Option V)=>∀m d,e=some (m,d)→fT m=true∧∃v,x=some v∧Val K H (λ_=>False) HE H m d v) (ds.map (λd=>some (.al,d))++List.replicate k none) (vs.map some++List.replicate k none):=by
  intro vs ds
  induction vs generalizing ds with
  |nil=>intro r;cases r;exact rep k
  |cons v vs ih=>intro r;cases r with|cons h r=>exact .cons (λm d e=>by cases e;exact⟨rfl,v,rfl,h.wk λ_ _ _ z=>z⟩) (ih r)
 exact go r
def Ib{ds:Ut}{k i:Nat}{d:D}(h:(ds.map (λd=>some (M.al,d))++List.replicate k none)[i]?=some (some (M.bi,d))):False:=by
 let hm:=c9 h;rcases fG.mp hm with z|z
 ·let⟨d,_,e⟩:=bV.mp z;cases e
 ·have:=uj z;cases this
def Aa{ds:Ut}{k i:Nat}{d:D}(h:(ds.map (λd=>some (M.al,d))++List.replicate k none)[i]?=some (some (M.nb,d))):False:=by
 let hm:=c9 h;rcases fG.mp hm with z|z
 ·let⟨d,_,e⟩:=bV.mp z;cases e
 ·have:=uj z;cases this
def BH{ts:TS}{g:Ul}{n:Nat}{N:U3}{vs:List V}{Q:VK}{E:XK}(h:JS K ts g)(hs:j5 K n (fn N.length g) vs H Q E):ts { nx:=λ_ H'=>Q .non H',rt:=Q } (L2.start N vs) H:=by
 let⟨hl,ds,m,d,r,e,q⟩:=hs;let⟨fl,ef,eo⟩:=ak e;let R:Rel K H (λ_=>none) (λ_=>False) H (L2.start N vs) (ds.map (λd=>some (.al,d))++List.replicate (N.length-ds.length) none) :=
  ⟨⟨by unfold L2.start;rw[r.len];exact Ia r _,λ_ z=>z.elim,λa o e=>⟨o,e⟩,λ_ _ z=>z.elim⟩,λa o _ e=>e,λ_ z=>z.elim,λi d p h1=>(Ib h1).elim,(λi j x y p h1 h2 o1 o2=>by
   exfalso;let k:∀{i:Nat}{x:M×D},(ds.map (λd=>some (M.al,d))++List.replicate (N.length-ds.length) none)[i]?=some (some x)→x.1=.al:=λ{i x} h=>by
    let hm:=c9 h;rcases fG.mp hm with z|z
    ·let⟨d,_,e⟩:=bV.mp z;cases e;rfl
    ·have:=uj z;cases this
   rw[k h1]at o1;cases o1),⟨λi j d d' h1=>(Aa h1).elim,λi j d x p q xs h1=>(Aa h1).elim⟩⟩
 refine h H (λ_=>none) (λ_=>False) H _ _ _ fl R ef ?_;cases fl with
 |nx e'=>cases eo;exactλO' H' σ' R' st=>q .non H' (λa o e=>R'.fr a o (λ_ z=>nomatch z) e) Rp.non
 |bk e'=>cases eo
 |ct e'=>cases eo
 |rt e' m' d' =>
  intro O' H' σ' v R' st hv;let sm:aB H H':=λa o e=>R'.fr a o (λ_ z=>nomatch z) e;cases m'<;>simp only[out]at eo
  ·split at eo
   ·rename_i hi;cases eo;exact q v H' sm (show Rp K _ H' v d from hv.weak.im hi)
   ·cases eo
  ·cases eo;exact q v H' sm (show Rp K _ H' v d from Rp.wk (λa h _=>h.2) hv)
  ·cases eo;let⟨p,rfl,_,h0,_,c⟩:=hv;exact q _ H' sm ⟨p,rfl,h0,c.wk λa h _=>⟨h.1.2,h.2⟩⟩
  ·cases eo;let⟨p,rfl,hO,h0,c⟩:=hv;exact q _ H' sm ⟨p,rfl,h0,c.wk λa h _=>⟨h.2,λz=>h.1 (z▸hO)⟩⟩
  ·cases eo
  ·cases eo;exact q v H' sm (show Rp K _ H' v d from hv)
  ·cases eo;exact q v H' sm (show Rp K _ H' v d from gO.rp (λ_ z=>z) hv)
  ·cases eo;exact q v H' sm (show cI K _ H' d v from cI.wk (λq z=>z.2.1) hv)
abbrev aJ(F:Ur)(fs:Um):Uq:=λe=>(fs e).bind λaF=>F (aF.map (·.2))
def KP{m:M}{d:D}{v:V}(od:∀a,O a→∃o,H a=some o)(hd:∀a o,H₀ a=some o→∃o',H a=some o')(h:DS K H H' m d v):Val K H₀ O H H' m d v:=by
 cases m<;>try exact h.elim
 ·exact Rp.wk (λa h _=>⟨eh od h,g5 hd h⟩) h
 ·let⟨p,rfl,hp,c⟩:=h;exact⟨p,rfl,hp,g5 hd hp,eh od hp,c.wk λa h _=>⟨⟨eh od h.1,g5 hd h.1⟩,h.2⟩⟩
 ·exact cI.wk (λq z=>⟨z,g5 hd z,eh od z⟩) h
def BI{n:Nat}{F:Ur}{ta:TA}{fs:Um}{E:XK}(ha:gZ K ta fs)(hl:∀e aF,fs e=some aF→aF.length=n):JT K (nZ (j5 K n F) [] E ta) (aJ F fs):=by
 intro H₀ O H σ env Q m d R h q;let⟨aF,e,h⟩:=ak h;refine ha H₀ O H σ env _ aF R e λvs H1 s1 h1=>?_;let R1:=R.keep s1;rw[mQ];refine⟨by rw[←cf h1];exact hl _ _ e,aF.map (·.2),m,d,h1.eW (λmd hm v hv=>hv.weak),h,λv H2 s2 h2=>?_⟩;exact q v H2 (s1.trans s2) ((KP R1.od R1.hd h2).hb λa z=>s1.free z)
end
section
variable {K:Uw}{H H' H₀:Hp}{O O':Uv}{σ:St}{env:Ev}
abbrev gf:M×D→Us
 | (_,.int i)=>some (.fr,.int (-i))
 |_=>none
def Nb:JU K (rU λi=>.int (-i)) gf:=by
 intro H₀ O H x a Q m d _ _ h1 h q;let⟨ma,da⟩:=a;cases da<;>cases h;exact⟨_,h1.int,q _ H (aB.refl H) jG⟩
def DT(i j:Int):Prop:=0<j∧j<1606938044258990275541962092341162602522202993782792835301376
abbrev cv:=gI (λ_ j=>0<j∧j<1606938044258990275541962092341162602522202993782792835301376) (· / ·)
def KQ:JR K (rI DT λi j=>.int (i/j)) cv:=tj λ_ _ h=>h
theorem log2_lt{n:Nat}(h:n<2^200):n.log2<9000:=by
 rcases Nat.eq_zero_or_pos n with rfl|h0
 ·decide
 ·exact Nat.lt_trans ((Nat.log2_lt (by omega)).mpr h) (by decide)
def Jo{X:Cx}:a8 X (binaryOp .FloorDiv) (rI DT λi j=>.int (i/j)):=uA λi j _ _ _ _ _ hc q=>by
 let e:i/j=i.fdiv j:=(Int.fdiv_eq_ediv_of_nonneg i (Int.le_of_lt hc.1)).symm;rw[e]at q;let h1:=hc.1;let h2:=hc.2;let hl:j.natAbs<2^200:=by
  let e2:(2:Nat)^200=1606938044258990275541962092341162602522202993782792835301376:=by decide
  rw[e2];omega
 exact PyProof.Rows.floordiv_int (Int.ne_of_gt hc.1) q (.inl (PyProof.noPylong_of_log2 (log2_lt hl)))
def KR{X:Cx}:a8 X (binaryOp .Add) (rP X.K):=by
 intro pins s σ H x y v u Q I rx ry h;let⟨l,b,xs,zs,rfl,rfl,hl,hb,hz,q⟩:=h;cases (show v=Value.ref l from rx);cases (show u=Value.ref b from ry);let⟨its,r,pl,_⟩:=I.list hl;let⟨om,r2,pm,_⟩:=I.list hb;let⟨⟨cls,dd,data,sl⟩,ho,hc,n,hd⟩:=pl.isList;let⟨⟨Qa,m3,data2,lq⟩,iw,jU,n2,hd2⟩:=pm.isList;simp only at hc hd jU hd2;subst hc hd jU hd2;let ea:its.toArray++om.toArray=(its++om).toArray:=by simp
 let e1:=r.length;let e2:=r2.length;refine tZ ⟨_,ho,rfl⟩ ⟨_,iw,rfl⟩ noFill_list_add seq_list_add PySem.F.slot_list_add PySem.F.entry_list_add (PySem.F.args_list_add_2 _ _) (PyProof.Rows.list_addW l b its.toArray om.toArray n n2 dd m3 sl lq (by rw[dO,dO];omega)) ⟨ho,iw,?_⟩;rw[ea];exact⟨.ref _,_,I.Qc (t':=s.toks) (r.append r2) (by rw[cK];omega),rfl,q _ I.fresh⟩
def Jp{X:Cx}(h:X.K=K):a8 X (binaryOp .Add) (rP K):=by subst h;exact KR
def Jq{r r':R2}{g g':M×D→M×D→Us}{ta tb tc:TE}{fa fb fc:Uq}(hr:JR K r g)(Ri:JR K r' g')(ha:JT K ta fa)(hb:JT K tb fb)(hc:JT K tc fc):JT K (Cr r r' ta tb tc) (wj g g' fa fb fc):=by
 intro H₀ O H σ env Q m d R h q;let⟨a,ea,h⟩:=ak h;let⟨b,eb,h⟩:=ak h;let⟨z,ez,h⟩:=ak h;let⟨k,ek,h⟩:=ak h;refine ha H₀ O H σ env _ a.1 a.2 R ea λx H1 s1 h1=>?_;refine hb H₀ O H1 σ env _ b.1 b.2 (R.keep s1) eb λy H2 s2 h2=>?_;let R2:=(R.keep s1).keep s2;refine hr H₀ O H2 x y a b _ z.1 z.2 R2.od R2.hd (h1.keep s2).h0 h2.h0 ez λv H3 s3 h3=>?_;rw[lT ek]at h3;refine⟨k,h3.bl,?_⟩;cases k with
 |false =>
  rw[if_neg aL]at h ⊢;cases h;exact q _ H3 ((s1.trans s2).trans s3) cP
 |true =>
  rw[if_pos rfl]at h ⊢;let⟨c,ec,h⟩:=ak h;refine hc H₀ O H3 σ env _ c.1 c.2 (R2.keep s3) ec λw H4 s4 h4=>?_;let R4:=(R2.keep s3).keep s4;refine Ri H₀ O H4 y w b c Q m d R4.od R4.hd ((h2.keep s3).keep s4).h0 h4.h0 h λv H5 s5 h5=>?_;let s:=((s1.trans s2).trans s3).trans s4;exact q v H5 (s.trans s5) (h5.hb λa z=>s.free z)
def xo:Ut→Option (List V)
 |[]=>some []
 |d::ds=>(dW d).bind λv=>(xo ds).bind λr=>some (v::r)
theorem BJ{N:Uv}:∀{ds:Ut}{vs ws:List V},ao K N H vs ds→xo ds=some ws→vs=ws∧ws.all hJ=true
 |_,_,_,.nil,e=>by cases e;exact⟨rfl,rfl⟩
 |d::ds,v::vs,ws,.cons h r,e=>by
  let⟨w,ew,e⟩:=ak e;let⟨r',er,e⟩:=ak e;cases e;let⟨rfl,f⟩:=BJ r er;obtain rfl:=mj h ew;refine⟨rfl,?_⟩;rw[mR,f,Bool.and_true];cases h<;>simp only[dW]at ew<;>first|rfl|cases ew
abbrev xq:D→Option (Ut)
 |.lst ds=>some ds
 |.tup ds=>some ds
 |_=>none
def tD(neg:Bool):M×D→M×D→Us:=λa b=>(dW a.2).bind λx=>(xq b.2).bind λds=>(xo ds).bind λvs=>some (.fr,.bl (if neg then !pw x vs else pw x vs))
def seq_val{m:M}{d:D}{ds:Ut}{v:V}{Hb:Hp}(e:xq d=some ds)(h:Val K H₀ O Hb H m d v):∃p xs,v=.ref p∧(bf K H p xs∨aQ K H p xs)∧ao K (NM H₀ O (aI m)) H xs ds:=by
 cases d<;>simp only[xq]at e<;>cases e
 ·let⟨p,xs,rfl,h,r⟩:=h.tup;exact⟨p,xs,rfl,.inr h,r⟩
 ·let⟨p,xs,rfl,h,r⟩:=h.lst;exact⟨p,xs,rfl,.inl h,r⟩
def Jr{d:D}{x:V}(e:dW d=some x):hJ x=true:=by
 cases d<;>simp only[dW]at e<;>cases e<;>rfl
def Pk{neg:Bool}:JR K (yx K neg) (tD neg):=by
 intro H₀ O H x y a b Q m d _ _ h1 h2 h q;let⟨x',ex,h⟩:=ak h;let⟨ds,ed,h⟩:=ak h;let⟨vs,ev,h⟩:=ak h;cases h;let⟨p,xs,rfl,hs,r⟩:=seq_val ed h2;let⟨rfl,f⟩:=BJ r ev;obtain rfl:=mj h1.weak ex;exact⟨p,_,rfl,hs,Jr ex,f,q _ H (aB.refl H) cP⟩
def Js{m:M}(h:du m=true):fT m=true:=by cases m<;>first|rfl|cases h
abbrev ia:Up:=λ_=>some true
def vR:cE K sU ia:=by
 intro H₀ O H σ env Q b R h q;cases h;exact q H (aB.refl H)
abbrev gA(e:Ev)(ix:U0):Ev:=ix.map λi=>(e[i]?).getD none
abbrev dG(fc:Up)(fe:Uq)(m:M)(fr:Ev):Ut→Option (List (M×D))
 |[]=>some []
 |d::ds=>(fc (some (m,d)::fr)).bind λb=>if b=true then (fe (some (m,d)::fr)).bind λx=>(dG fc fe m fr ds).bind λr=>some (x::r)else dG fc fe m fr ds
def jH(it:Ev→Option (M×Ut))(ix:U0)(fc:Up)(fe:Uq):Uq:=λe=>(it e).bind λx=>(dG fc fe x.1 (gA e ix) x.2).bind cQ
def b9.fr{ix:U0}(R:b9 K H₀ O H σ env):Paired (λ(e:Us) (x:Option V)=>∀m d,e=some (m,d)→fT m=true∧∃v,x=some v∧Val K H₀ O HE H m d v) (gA env ix) (cy σ ix):=by
 unfold gA cy
 induction ix with
 |nil=>exact .nil
 |cons i ix ih =>
  refine .cons (λm d e=>?_) ih;let e':env[i]?=some (some (m,d)):=by
   let e:(env[i]?).getD none=some (m,d):=e;cases q:env[i]? with
   |none=>rw[q]at e;cases e
   |some z=>rw[q]at e;exact bT some e
  let⟨v,hv,n,h⟩:=R.at e';exact⟨n,v,by show(σ[i]?).getD none=_;rw[hv];rfl,h⟩
def b9.more{C:Addr}(R:b9 K H₀ O H σ env)(hC:H C=none){H2:Hp}(s:aB H H2)(ys:List V)(e:H2 C=some (.lst ys)):b9 K H₀ (λa=>O a∨a=C) H2 σ env:=by
 let np:∀a,(∃o,H a=some o)→a≠C:=λa ⟨o,e⟩=>cu e hC;let w:∀{N:Uv}{d:D}{v:V},Rp K N H v d→Rp K (λa=>N a∧a≠C) H2 v d:=λr=>(r.wk λa n e=>⟨n,np a e⟩).keep (.same s);let ws:∀{N:Uv}{d:D}{q:Addr},Cell K N H q d→Cell K (λa=>N a∧a≠C) H2 q d:=λ{N d q} r=>by
  let⟨o,e,_⟩:=r.some;exact(r.wk λa n e=>⟨n,np a e⟩).keep (.same s) ((s _ _ e).trans e.symm)
 refine⟨mh (λe x h m d q=>?_) R.sl,λa h=>?_,λa o h=>?_,λa o h q=>?_⟩
 ·let⟨n,v,rfl,z⟩:=h m d q;refine⟨n,v,rfl,?_⟩;cases m
  ·exact(w z).wk λa h _=>λz=>z.elim h.1 h.2
  ·exact(w z).wk λa h _=>⟨λz=>z.elim h.1.1 h.2,h.1.2⟩
  ·cases n
  ·let⟨q,rfl,h1,h2,c'⟩:=z;exact⟨q,rfl,.inl h1,h2,(ws c').wk λa h _=>⟨λz=>z.elim h.1.1 h.2,h.1.2⟩⟩
  ·let⟨q,rfl,h1,c'⟩:=z;exact⟨q,rfl,.inl h1,(ws c').wk λa h _=>⟨λz=>z.elim h.1.1 h.2,h.1.2⟩⟩
  ·cases n
  ·let⟨q,qs,aG,e1,e2,h1,h2,h3,h4,h5,h6⟩:=z;exact⟨q,qs,aG,e1,e2,.inl h1,h2,s _ _ h3,h4,λx hx=>⟨.inl (h5 x hx).1,(h5 x hx).2⟩,jA (λx ds _ ⟨xs,a,r⟩=>⟨xs,s _ _ a,((r.wk λa n e=>(⟨n,np a e⟩:(¬O a∧H₀ a=none)∧a≠C)).keep (.same s)).wk λa h _=>⟨λz=>z.elim h.1.1 h.2,h.1.2⟩⟩) h6⟩
  ·cases n
 ·rcases h with h|rfl
  ·let⟨o,q⟩:=R.od a h;exact⟨o,s _ _ q⟩
  ·exact⟨_,e⟩
 ·let⟨o',q⟩:=R.hd a o h;exact⟨o',s _ _ q⟩
 ·rcases h with h|rfl
  ·exact(R.keep s).on a o h q
  ·rw[e]at q;cases q;exactλz=>z
def Az{J:It}{m:M}{ds:Ut}{tc:TT}{te:TE}{fc:Up}{fe:Uq}{H1:Hp}{ix:U0}{de:List (M×D)}{bb:Bool}{Q:Addr→Hp→Prop}{C:Addr}
  (R:b9 K H₀ O H1 σ env) (hm:du m=true) (ok:iP K H₀ O J H1 m ds) (hc:cE K tc fc) (he:JT K te fe) (hl:de.length≤sizeLine) (et:dG fc fe m (gA env ix) ds=some de)
  (hs:∀x∈de,(if bb then bI x.1 x.2 else gw x.1 x.2)=true) (hC:H1 C=none)
  (q:∀ys H',aB H1 H'→H' C=some (.lst ys)→ao K (λa=>¬(O a∨a=C)∧(bb=true→H₀ a=none)) H' ys (de.map (·.2))→Q C H'):n9 J C H1 (cy σ ix) tc te Q:=by
 let hN:∀{N:Uv}{Ha Hb:Hp},(∀a,N a→a≠C)→(∀b o,b≠C→Ha b=some o→Hb b=some o)→(∀o,Ha C=some o→¬fS o)→Keeps N Ha Hb:=λw s nt a o e z=>s a o (by
  rcases z with z|z
  ·exact w a z
  ·rintro rfl;exact nt o e z) e
 refine⟨λi n H2=>n=ds.length-i∧i≤ds.length∧aB H1 H2∧∃ys acc rest,H2 C=some (.lst ys)∧dG fc fe m (gA env ix) (ds.drop i)=some rest∧de=acc++rest∧ao K (λa=>¬(O a∨a=C)∧(bb=true→H₀ a=none)) H2 ys (acc.map (·.2)),⟨_,rfl,ik _,bZ hC,[],[],de,bh,et,rfl,.nil⟩,?_⟩;rintro i n H2 ⟨rfl,hle,s2,ys,acc,rest,fQ,er,fF,rr⟩;let aR:aH O H1 O H2:=aH.same s2;by_cases aW:i<ds.length
 ·refine .inr ⟨ok.go O H2 i aR aW,λx H3 y=>?_⟩;let xr:aH O H1 (λa=>O a∨a=C) H2:=λa o e n=>⟨s2 a o e,λz=>z.elim n (cu e hC)⟩;let⟨s3,d,hd,hv⟩:=ok.gW (λa=>O a∨a=C) H2 i x H3 xr aW y;let R2:=R.more hC s2 ys fQ;let R3:=R2.keep s3;let pL:b9 K H₀ (λa=>O a∨a=C) H3 (some x::cy σ ix) (some (m,d)::gA env ix) :=
   ⟨.cons (λm' d' e=>by cases e;exact⟨Js hm,x,rfl,hv⟩) R3.fr,R3.od,R3.hd,R3.on⟩
  let pJ:ds.drop i=d::ds.drop (i+1):=by
   rw[yd aW];rw[fI aW]at hd;cases hd;rfl
  rw[pJ]at er;simp only[dG]at er;let⟨b,eb,er⟩:=ak er;refine hc H₀ _ H3 _ _ _ b pL eb λH4 s4=>?_;cases b with
  |true =>
   rw[if_pos rfl]at er ⊢;let⟨z,ez,er⟩:=ak er;let⟨r',yS,er⟩:=ak er;cases er;refine he H₀ _ H4 _ _ _ z.1 z.2 (pL.keep s4) ez λw H5 s5 h5=>?_;let i6:aB H2 H5:=(s3.trans s4).trans s5;let yT:ys.length=acc.length:=by rw[rr.len,dC]
   let yU:acc.length<sizeLine:=by
    let e1:=bT List.length fF;rw[cK,gq]at e1;omega
   refine⟨ys,i6 _ _ fQ,by rw[yT];exact yU,ds.length-(i+1),by omega,rfl,aW,?_,ys++[w],acc++[z],r',bh,yS,by rw[fF,List.append_assoc];rfl,?_⟩
   ·intro a o e;rw[aD (cu e hC)];exact i6 _ _ (s2 _ _ e)
   ·rw[fJ];let hz:Rp K (λa=>¬(O a∨a=C)∧(bb=true→H₀ a=none)) H5 w z.2:=by
     let h:=hs z (by rw[fF];exact eQ _ bC);cases bb with
     |true=>exact(h5.bI h).wk λa h _=>⟨h.1,λ_=>h.2⟩
     |false=>exact(h5.gw h).wk λa h _=>⟨h,λz=>nomatch z⟩
    let kp:Keeps (λa=>¬(O a∨a=C)∧(bb=true→H₀ a=none)) H5 (upd H5 C (.lst (ys++[w]))):=hN (λa h z=>h.1 (.inr z)) (λb o ne e=>by rw[aD ne];exact e) (λo e=>by rw[i6 _ _ fQ]at e;cases e;exactλz=>z);exact((rr.keep (.same i6)).keep kp).app (.cons (hz.keep kp) .nil)
  |false =>
   rw[if_neg aL]at er ⊢;let lA:=s3.trans s4;exact⟨ds.length-(i+1),by omega,rfl,aW,s2.trans lA,ys,acc,rest,lA _ _ fQ,er,fF,rr.keep (.same lA)⟩
 ·let hi:i=ds.length:=by omega
  subst hi;rw[ye]at er;cases er;rw[mQ]at fF;subst fF;exact .inl ⟨ok.stop O H2 aR,q ys H2 s2 fQ rr⟩
def rg{wi:TI}{ix:U0}{tc:TT}{te:TE}{it:Ev→Option (M×Ut)}{fc:Up}{fe:Uq}(hi:JI K wi it)(hc:cE K tc fc)(he:JT K te fe):JT K (lZ wi ix tc te) (jH it ix fc fe):=by
 intro H₀ O H σ env Q m d R e q;let⟨⟨mi,ds⟩,ei,e⟩:=ak e;let⟨de,et,e⟩:=ak e;refine hi H₀ O H σ env _ mi ds R ei λJ H1 s1 hm ok C hC=>?_;let R1:=R.keep s1;unfold cQ at e;split at e
 ·rename_i hl;split at e
  ·rename_i ha;cases e;rw[fH]at ha;refine Az (bb:=true) R1 hm ok hc he hl et (λx hx=>ha x hx) hC λys H' s' hy r=>?_;refine q _ H' (s1.trans s') ⟨C,rfl,s1.free hC,g5 R1.hd hC,eh R1.od hC,ys,hy,r.wk λa h _=>⟨⟨λz=>h.1 (.inl z),h.2 rfl⟩,λz=>h.1 (.inr z)⟩⟩
  ·split at e
   ·rename_i ha;cases e;rw[fH]at ha;refine Az (bb:=false) R1 hm ok hc he hl et (λx hx=>ha x hx) hC λys H' s' hy r=>?_;exact q _ H' (s1.trans s') (Rp.lst (.inl hy) (eh R1.od hC) (r.wk λa h _=>λz=>h.1 (.inl z)))
   ·cases e
 ·cases e
def KS:∀e aF,ai e=some aF→aF.length=0:=λe aF h=>by cases h;rfl
def Jt{n:Nat}{f:Uq}{g:Um}(h:∀e aF,g e=some aF→aF.length=n):∀e aF,ag f g e=some aF→aF.length=n+1:=λe aF q=>by
 let⟨x,ex,q⟩:=ak q;let⟨r,er,q⟩:=ak q;cases q;rw[gq,h e r er]
end
section
variable {K:Uw}{H H' H₀:Hp}{O O':Uv}{σ:L2.St}{env:Ev}
def xt{X:Cx}{f:Value→Value→Sem Value}{r r':R2}(h:a8 X f r)(h':a8 X f r'):a8 X f (λx y H Q=>r x y H Q∨r' x y H Q) :=
 λpins s σ H x y v u Q I rx ry q=>q.elim (h pins s σ H x y v u Q I rx ry) (h' pins s σ H x y v u Q I rx ry)
abbrev fU(g g':M×D→M×D→Us):M×D→M×D→Us:=λa b=>match g a b with
 |some z=>some z
 |none=>g' a b
set_option tactic.hygienic true in
def wL{r r':R2}{g g':M×D→M×D→Us}(h:JR K r g)(h':JR K r' g'):JR K (λx y H Q=>r x y H Q∨r' x y H Q) (fU g g'):=by
 intro H₀ O H x y a b Q m d od hd h1 h2 e q;unfold fU at e;split at e
 ·rename_i z ez;cases e;exact .inl (h H₀ O H x y a b Q m d od hd h1 h2 ez q)
 ·exact .inr (h' H₀ O H x y a b Q m d od hd h1 h2 e q)
abbrev mr:M×D→M×D→Us
 | (_,.str x),(_,.str y)=>if x.length+y.length≤sizeLine then some (.fr,.str (x++y))else none
 |_,_=>none
def KW:JR K (λx y H Q=>∃i j,x=.str i∧y=.str j∧i.length+j.length≤sizeLine∧Q (.str (i++j)) H) mr:=by
 intro H₀ O H x y a b Q m d _ _ h1 h2 h q;let⟨ma,da⟩:=a;let⟨mb,db⟩:=b;cases da<;>try (cases h;done)
 cases db<;>try (cases h;done)
 simp only[mr]at h;split at h
 ·rename_i hl;cases h;exact⟨_,_,h1.str,h2.str,hl,q _ H (aB.refl H) DM⟩
 ·cases h
abbrev rQ(K:Uw):R2:=λx y H Q=>∃a b xs ys,x=.ref a∧y=.ref b∧aQ K H a xs∧aQ K H b ys∧xs.length+ys.length≤sizeLine∧∀p H',aB H H'→aQ K H' p (xs++ys)→Q (.ref p) H'
def KY{X:Cx}:a8 X (binaryOp .Add) (rQ X.K):=by
 intro pins s σ H x y v u Q I rx ry h;let⟨a,b,xs,ys,rfl,rfl,ha,hb,hz,q⟩:=h;by_cases e:xs=[]
 ·subst e;cases rx;cases ry;let⟨its,r1,p1,_⟩:=I.tuple ha;let⟨om,r2,p2,_⟩:=I.tuple hb;cases r1;exact Jf p1 p2 ⟨.ref b,H,I,rfl,q b H (aB.refl H) hb⟩
 ·refine Kn pins s σ H (.ref a) (.ref b) v u Q I rx ry ⟨a,b,xs,ys,rfl,rfl,ha,hb,e,hz,λe2=>?_,λ_ p hp=>q p _ (bZ hp) (aQ.of bh)⟩;subst e2;exact q a H (aB.refl H) (by rw[mQ];exact ha)
def Ju{X:Cx}(h:X.K=K):a8 X (binaryOp .Add) (rQ K):=by subst h;exact KY
def kz:M×D→M×D→Us
 | (m,.tup ds),(n,.tup es)=>if aI m=.rb∨aI n=.rb then none else if ds.length+es.length≤sizeLine then some (aI (mJ m n),.tup (ds++es))else none
 |_,_=>none
def KZ:JR K (rQ K) kz:=by
 intro H₀ O H x y a b Q m d od hd h1 h2 h q;let⟨ma,da⟩:=a;let⟨mb,db⟩:=b;cases da<;>try (cases h;done)
 cases db<;>try (cases h;done)
 simp only[kz]at h;split at h
 ·cases h
 ·rename_i hn;split at h
  ·rename_i hl;cases h;let⟨p,xs,rfl,r,s⟩:=h1.tup;let⟨p',yP,rfl,r',s'⟩:=h2.tup;let n1:aI ma≠.rb:=λz=>hn (.inl z);let n2:aI mb≠.rb:=λz=>hn (.inr z);refine⟨p,p',xs,yP,rfl,rfl,r,r',by rw[s.len,s'.len];exact hl,λl H' sm hq=>q _ _ sm (Val.el (Rp.tup hq ?_))⟩;exact(ao.app (s.wk λ_ h _=>NM.Fp n1 n2 h) (s'.wk λ_ h _=>NM.Fq n1 n2 h)).keep (.same sm)
  ·cases h
@[reducible]def wZ(K:Uw):R2:=λx y H Q=>fM (λi j=>.int (i+j)) x y H Q∨(λx y H Q=>(λx y H Q=>∃i j,x=.str i∧y=.str j∧i.length+j.length≤sizeLine∧Q (.str (i++j)) H) x y H Q∨(λx y H Q=>rP K x y H Q∨rQ K x y H Q) x y H Q) x y H Q
def bp:=fU Ey (fU mr (fU fD kz))
def K0{X:Cx}(h:X.K=K):a8 X (binaryOp .Add) (wZ K):=xt Mi (xt Hq (xt (Jp h) (Ju h)))
def K1:JR K (wZ K) bp:=wL MK (wL KW (wL M0 KZ))
abbrev pM:D→String
 |.non => "NoneType"
 |.bl _ => "bool"
 |.int _ => "int"
 |.str _ => "str"
 |.ty _ => "type"
 |.tup _ => "tuple"
 |.lst _ => "list"
 |.dk _ => "dict"
 |.dt _ => "dict"
def mE:List (M×D)→Us
 |[(_,d),(_,.ty T)]=>if pM d = "type" then none else if ["bool", "int", "str", "tuple", "list", "dict"].contains T=true then some (.fr,.bl (pM d==T||(pM d == "bool" && T == "int")))else none
 |_=>none
end
inductive TyJ (K:Uw)(H:Hp):V→String→Prop where
 |non:TyJ K H .non "NoneType"
 |bl (x:Bool):TyJ K H (.bl x) "bool"
 |int (i:Int):TyJ K H (.int i) "int"
 |str (x:Str):TyJ K H (.str x) "str"
 |lst {a:Addr}{xs:List V} (e:bf K H a xs):TyJ K H (.ref a) "list"
 |tup {a:Addr}{xs:List V} (e:aQ K H a xs):TyJ K H (.ref a) "tuple"
 |dK {a:Addr}{ae:List (Key×V)} (e:Rd H a (.dK ae)):TyJ K H (.ref a) "dict"
 |dT {a:Addr}{ae:List (List Key×V)} (e:Rd H a (.dT ae)):TyJ K H (.ref a) "dict"
abbrev pN(t T:String):Bool:=t==T||(t == "bool" && T == "int")
def Nc (K:Uw) {t T:String} (h1:["NoneType", "bool", "int", "str", "tuple", "list", "dict"].contains t=true) (h2:["bool", "int", "str", "tuple", "list", "dict"].contains T=true):PySem.W.kitOne K (.type t) (.type T)=some (pN t T):=by
 simp only[List.contains_cons,List.contains_nil,Bool.or_false,Bool.or_eq_true,beq_iff_eq]at h1 h2;rcases h1 with rfl|rfl|rfl|rfl|rfl|rfl|rfl<;>rcases h2 with rfl|rfl|rfl|rfl|rfl|rfl<;>rfl
section
variable {K:Uw}{H H' H₀:Hp}{O O':Uv}{σ:L2.St}{env:Ev}
def Nf{x:V}{t:String}(h:TyJ K H x t):["NoneType", "bool", "int", "str", "tuple", "list", "dict"].contains t=true:=by cases h<;>decide
def Ic{X:Cx}(hK:X.K=K):f6 X (.builtin "isinstance") (λxs H Q=>∃x T t,xs=[x,.ty T]∧TyJ K H x t∧["bool", "int", "str", "tuple", "list", "dict"].contains T=true∧Q (.bl (pN t T)) H):=by
 subst hK;intro pins s σ H xs us Q I r h;let⟨x,T,t,rfl,ty,hT,q⟩:=h;let⟨u,u',rfl,rx,ry⟩:=vals2 r;cases (show u'=Value.type T from ry);let e:=Nc X.K (Nf ty) hT;let fin:∀tk,EP X pins σ Q (.bool (pN t T)) { s with toks:=tk }:=λtk=>⟨.bl (pN t T),H,I.tok tk,rfl,q⟩;cases ty with
 |non=>cases (show u=Value.none from rx);exact jR PySem.W.kitx_none I.eR True.intro e (λz=>nomatch z) fin
 |bl y=>cases (show u=Value.bool y from rx);exact jR PySem.W.kitx_bool I.eR True.intro e (λz=>nomatch z) fin
 |int i=>let⟨t,q⟩:=(show ∃t,u=Value.int i t from rx);cases q;exact jR PySem.W.kitx_int I.eR True.intro e (λz=>nomatch z) fin
 |str y=>let⟨t,q⟩:=(show ∃t,u=Value.str y t from rx);cases q;exact jR PySem.W.kitx_str I.eR True.intro e (λz=>nomatch z) fin
 |@lst a xs ea =>
  cases (show u=Value.ref a from rx);let⟨its,_,⟨o,n,h1,h2,_⟩,_⟩:=I.list ea;exact jR PySem.W.kitx_list I.eR ⟨o,h1,h2⟩ e (λz=>nomatch z) fin
 |@tup a xs ea =>
  cases (show u=Value.ref a from rx);let⟨its,_,p,_⟩:=I.tuple ea;let⟨o,h1,h2,_⟩:=p;exact jR PySem.W.kitx_tuple I.eR ⟨o,h1,h2⟩ e (λz=>nomatch z) fin
 |@dK a ae ea =>
  cases (show u=Value.ref a from rx);let⟨_,_,vs,_,p⟩:=ea.ok I.aA;let⟨o,es,ep,h1,h2,_⟩:=p;exact jR PySem.W.kitx_dict I.eR ⟨o,h1,h2.1⟩ e (λz=>nomatch z) fin
 |@dT a ae ea =>
  cases (show u=Value.ref a from rx);let⟨_,_,vs,_,o,es,ep,h1,h2,_⟩:=ea.ok I.aA;exact jR PySem.W.kitx_dict I.eR ⟨o,h1,h2.1⟩ e (λz=>nomatch z) fin
def Ng {N:Uv}{v:V}{d:D} (h:Rp K N H v d) (n:pM d ≠ "type"):TyJ K H v (pM d):=by
 cases h with
 |non=>exact .non
 |bl b=>exact .bl b
 |int i=>exact .int i
 |str x=>exact .str x
 |ty x=>exact absurd rfl n
 |tup h _=>exact .tup h
 |lst h _ _=>exact .lst (.inl h)
 |lstK h _=>exact .lst (.inr h)
 |dk h _ _ _=>exact .dK h
 |dt h _ _ _=>exact .dT h
def K2:j4 K (λxs H Q=>∃x T t,xs=[x,.ty T]∧TyJ K H x t∧["bool", "int", "str", "tuple", "list", "dict"].contains T=true∧Q (.bl (pN t T)) H) mE:=by
 intro H₀ O H vs aF Q m d _ _ hv h q;unfold mE at h;split at h
 ·split at h
  ·cases h
  ·rename_i hn;split at h
   ·rename_i hT;cases h;let⟨v,w,rfl,hx,hw⟩:=hv.two;obtain rfl:=hw.ty;exact⟨v,_,_,rfl,Ng hx.weak hn,hT,q _ H (aB.refl H) cP⟩
   ·cases h
 ·cases h
end
section
variable {K:Uw}{H:Hp}
theorem vS{N:Uv}:∀(ns:List Int),ao K N H (ns.map V.int) (ns.map D.int)
 |[]=>.nil
 |n::ns=>.cons (.int n) (vS ns)
def Nh{F:Ur}{a:Addr}{ns:List Int}{E:XK}(h:bf K H a (ns.map V.int))(e:∃m,F [.lst (ns.map .int)]=some (m,.bl true)):j5 K 1 F [.ref a] H (λv _=>v=.bl true) E:=by
 let⟨m,e⟩:=e;refine⟨rfl,_,m,_,.cons ?_ .nil,e,λv H' _ r=>?_⟩
 ·rcases h with h|h
  ·exact .lst h trivial (vS ns)
  ·exact .lstK h (vS ns)
 ·cases m<;>try exact r.elim
  ·exact Rp.CN r
  ·let⟨p,_,_,c⟩:=r;exact c.elim
  ·let⟨_,_,_,_,e,_⟩:=r;cases e
end
section
variable {m n:M}{i j:Int}{x y:Str}{b c:Bool}{ds es:Ut}{d:D}
def dH:bA (m,.int i) (n,.int j)=some (.fr,.bl (decide (i=j))):=by
 show(if true=true then some (M.fr,D.bl (decide (V.int i=V.int j)))else none)=_;simp
def hX:bA (m,.str x) (n,.str y)=some (.fr,.bl (decide (x=y))):=by
 show(if true=true then some (M.fr,D.bl (decide (V.str x=V.str y)))else none)=_;simp
def Pl:j0 (m,.int i) (n,.int j)=some (.fr,.bl (!decide (i=j))):=by
 show(if true=true then some (M.fr,D.bl (!decide (V.int i=V.int j)))else none)=_;simp
def DU:j0 (m,.str x) (n,.str y)=some (.fr,.bl (!decide (x=y))):=by
 show(if true=true then some (M.fr,D.bl (!decide (V.str x=V.str y)))else none)=_;simp
def b7:bp (m,.int i) (n,.int j)=some (.fr,.int (i+j)):=rfl
def CY(h:x.length+y.length≤sizeLine):bp (m,.str x) (n,.str y)=some (.fr,.str (x++y)):=by
 show(match (none:Us) with|some z=>some z|none=>fU mr (fU fD kz) (m,.str x) (n,.str y))=_
 show(match mr (m,.str x) (n,.str y) with|some z=>some z|none=>_)=_
 simp only[mr,if_pos h]
def iK:gP (m,.int i) (n,.int j)=some (.fr,.int (i-j)):=rfl
def mul_r(h:-18446744073709551616<j∧j<18446744073709551616):cW (m,.int i) (n,.int j)=some (.fr,.int (i*j)):=by show(if _ then _ else _)=_;rw[if_pos (.inr h)]
def kC(h:-18446744073709551616<i∧i<18446744073709551616):cW (m,.int i) (n,.int j)=some (.fr,.int (i*j)):=by show(if _ then _ else _)=_;rw[if_pos (.inl h)]
def bq(h:0<j):bt (m,.int i) (n,.int j)=some (.fr,.int (i%j)):=by show(if _ then _ else _)=_;rw[if_pos h]
def div_ii(h:0<j∧j<1606938044258990275541962092341162602522202993782792835301376):cv (m,.int i) (n,.int j)=some (.fr,.int (i/j)):=by show(if _ then _ else _)=_;rw[if_pos h]
def rB(h:0≤j∧j≤1000000∧i.natAbs<2^64):kW (m,.int i) (n,.int j)=some (.fr,.int (i^j.toNat)):=by show(if _ then _ else _)=_;rw[if_pos h]
def Pm:kW (m,.int 2) (n,.int 64)=some (.fr,.int 18446744073709551616):=by
 rw[rB (by decide)];have:(2:Int)^(64:Int).toNat=18446744073709551616:=by decide
 rw[this]
def eC:g0 (m,.int i) (n,.int j)=some (.fr,.bl (decide (i<j))):=rfl
def DV:Q9 (m,.int i) (n,.int j)=some (.fr,.bl (decide (i≤j))):=rfl
def rR:uL (m,.int i) (n,.int j)=some (.fr,.bl (decide (j<i))):=rfl
def rS:gf (m,.int i)=some (.fr,.int (-i)):=rfl
def DW:aC (m,.lst ds) (n,.int i)=(aT ds i).map λd=>(aI m,d):=rfl
def Pn(h:x.length≤sizeLine):aC (m,.str x) (n,.int i)=(aT x.cps.toList i).map λc=>(.fr,.str ⟨#[c]⟩):=by simp[aC,h]
def rT:cA [(m,.lst ds)]=some (.fr,.int ds.length):=rfl
def Pq:oB [(m,.bl b)]=some (.fr,.int (if b then 1 else 0)):=rfl
def DX:j3 (m,.bl b)=some b:=rfl
def Ni:iO (m,.int i)=some i:=rfl
def BK:kj (.fr,d)=some (.fr,d):=rfl
def K3:kj (.al,d)=some (.al,d):=rfl
def K4:kj (.un,d)=some (.bo,d):=rfl
def Nj{e:Ev}:out (.rt e .fr d)=some (.fr,d):=rfl
def CZ{e:Ev}:out (.rt e .un d)=some (.un,d):=rfl
def Nk{e:Ev}:out (.rt e .bo d)=some (.un,d):=rfl
def C0:bI .fr d=true:=rfl
def Nm:bI .al d=d.bD:=rfl
def Qo:D.bD (.int i)=true:=by simp only[D.bD]
def Qp:D.bD (.str x)=true:=by simp only[D.bD]
def C1:aI .al=.al:=rfl
def Nn:aI .fr=.fr:=rfl
def Np:aI .un=.fr:=rfl
def Nq:aI .bo=.fr:=rfl
def aw{f g:Ul}{e e':Ev}(h:f e=some (.nx e')):au f g e=g e':=by simp[au,h]
def cU{f g:Ul}{e e':Ev}(h:f e=some (.rt e' m d)):au f g e=some (.rt e' m d):=by simp[au,h]
def bO{c:Up}{f g:Ul}{e:Ev}(h:c e=some true):aU c f g e=f e:=by simp[aU,h]
def bw{c:Up}{f g:Ul}{e:Ev}(h:c e=some false):aU c f g e=g e:=by simp[aU,h]
def kg{α:Type}{l:List α}{k:Nat}(h:k<l.length):L2.aT l (k:Int)=some l[k]:=by
 unfold L2.aT L2.cM;rw[if_pos (Int.natCast_nonneg k),if_pos (by omega)];simp[h]
def iI{α:Type}{l:List α}{k:Int}(h0:0≤k)(h1:k<l.length):L2.aT l k=some (l[k.toNat]'(by omega)):=by
 unfold L2.aT L2.cM;rw[if_pos h0,if_pos h1];have:k.toNat<l.length:=by omega
 simp[this]
def A3{ns:List Int}{k:Int}(h0:0≤k)(h1:k<ns.length):∃c,L2.aT (ns.map D.int) k=some (.int c):=by
 rw[iI h0 (by simpa using h1)];exact⟨ns[k.toNat]'(by omega),by simp⟩
end
theorem dm{g:M×D→Ev→Option Ev}{b:Ul}{m:M}:∀{ds:Ut}{e:Ev} (Iv:Nat→Ev→Prop),Iv 0 e →
  (∀(k:Nat) d e,ds[k]?=some d→Iv k e→∃e1 e2,g (m,d) e=some e1∧b e1=some (.nx e2)∧Iv (k+1) e2)→∃e',forL g b m ds e=some (.nx e')∧Iv ds.length e'
 |[],e,Iv,h0,_=>⟨e,rfl,h0⟩
 |d::ds,e,Iv,h0,hs=>by
  let⟨e1,e2,h1,h2,h3⟩:=hs 0 d e rfl h0;let⟨e',h4,h5⟩:=dm (ds:=ds) (e:=e2) (λk e=>Iv (k+1) e) h3 λk d e hd hi=>hs (k+1) d e (by simpa using hd) hi;refine⟨e',?_,h5⟩;simp only[forL,h1,h2,Option.bind_some];exact h4
def lU{lo:Int}{n k:Nat}{d:D}(h:(bH lo n)[k]?=some d):k<n∧d=.int (lo+k):=by
 unfold bH at h;rw[dN]at h;let hk:k<n:=by
  rcases ui k n with z|z
  ·exact z
  ·rw[yc (by simpa using z)]at h;cases h
 rw[yf hk]at h;cases h;exact⟨hk,rfl⟩
def nP{lo:Int}{n:Nat}:(bH lo n).length=n:=by simp[bH]
def Ie{c:Up}{b:Ul}{e:Ev}(Iv:Ev→Prop)(μ:Ev→Nat)(h0:Iv e)
  (hs:∀e,Iv e→c e=some false∨(c e=some true∧∃e2,b e=some (.nx e2)∧Iv e2∧μ e2<μ e)):∃e',gE c b e=some (.nx e')∧Iv e'∧c e'=some false:=by
 have:∀(n:Nat) e,μ e≤n→Iv e→∃e',b0 c b (n+1) e=some (.nx e')∧Iv e'∧c e'=some false:=by
  intro n
  induction n with
  |zero =>
   intro e hn hi;rcases hs e hi with h|⟨_,e2,_,_,h⟩
   ·exact⟨e,by simp[b0,h],hi,h⟩
   ·omega
  |succ n ih =>
   intro e hn hi;rcases hs e hi with h|⟨h,e2,h1,h2,h3⟩
   ·exact⟨e,by simp[b0,h],hi,h⟩
   ·let⟨e',q1,q2,q3⟩:=ih e2 (by omega) h2;refine⟨e',?_,q2,q3⟩;rw[b0,h,k9,if_pos rfl,h1,k9];exact q1
 let⟨e',h1,h2,h3⟩:=this (μ e) e (aK _) h0;exact⟨e',vy h1,h2,h3⟩
def Rj{n:Nat}(h:n≤1000):(n≤sizeLine)=True:=eq_true (cC h (by decide))
end J
namespace J
open PySem PySem.Spec PyProof.Rows L2
section
variable {X:Cx}{pins:Ux}{σ:L2.St}{H:Hp}{s:Shared}{h':Heap}
def Hy{fp:List Addr}{t':Nat}(I:L2.Inv X pins σ H s)(k:∀b o,b∉fp→s.heap.get? b=some o→h'.get? b=some o)(hf:∀b∈fp,gK X pins H b):L2.Inv X pins σ H { s with heap:=h',toks:=t' }:=by
 let jS:∀b u,H b=some u→b∉fp:=λb u e z=>by rw[(hf b z).1]at e;cases e
 refine I.step (g':=s.gens) (d':=s.drawn) (ch:=fp) (λb hb=>?_) (λb o _ _ hc e _=>k b o hc e) (λb o _ _ hc e _=>⟨o.slots,k b o hc e⟩) (λ_ _ _ _ n=>n)
  (λb o hc e=>⟨o,k b o hc e⟩) (λ_ _ e=>e) (λ_ _ _ e=>e) (λb ps e=>⟨#[],by rw[e];simp⟩) (λm hm=>?_) (λb u e=>?_) I.bare
 ·let⟨f0,f1,f2,f3,f4,f5⟩:=hf b hb;exact⟨f3,f1,f4,f5⟩
 ·let⟨o,es,ep,ho,r⟩:=hm;exact⟨o,es,ep,k _ o (λz=>(hf _ z).2.1 rfl) ho,r⟩
 ·refine(I.aA b u e).kN (λc v hc q=>k c v ?_ q) (λ_ q=>q) λ_ _ q=>q;rcases hc with z|z
  ·rw[z];exact jS b u e
  ·exact jS c _ z
def Hi{fp:List Addr}{t':Nat}{o:HO}(I:L2.Inv X pins σ H s)(k:∀b o,b∉fp→s.heap.get? b=some o→h'.get? b=some o)(hf:∀b∈fp,gK X pins H b)(new:bS X.prog X.w (upd H s.heap.objs.size o) h' s.heap.objs.size o) :
  L2.Inv X pins σ (upd H s.heap.objs.size o) { s with heap:=h',toks:=t' }:=by
 let jS:∀b u,H b=some u→b∉fp:=λb u e z=>by rw[(hf b z).1]at e;cases e
 let hT:H s.heap.objs.size=none:=I.aA.fresh (aK _);let neT:∀b u,H b=some u→b≠s.heap.objs.size:=λb u e=>cu e hT;let Rk:∀b o,s.heap.get? b=some o→b≠s.heap.objs.size:=λb o e=>cR (bu e);refine I.step (g':=s.gens) (d':=s.drawn) (ch:=fp) (λb hb=>?_) (λb o _ _ hc e _=>k b o hc e) (λb o _ _ hc e _=>⟨o.slots,k b o hc e⟩) (λb o _ e n=>by rw[aD (Rk b o e)];exact n)
  (λb o hc e=>⟨o,k b o hc e⟩) (λb xs e=>by rw[aD (neT b _ e)];exact e) (λb _ _ e=>by rw[aD (neT b _ e)];exact e) (λb ps e=>⟨#[],by rw[aD (neT b _ e),e];simp⟩) (λm hm=>?_) (λb u e=>?_) I.bare
 ·let⟨f0,f1,f2,f3,f4,f5⟩:=hf b hb;exact⟨f3,f1,f4,f5⟩
 ·let⟨o,es,ep,ho,r⟩:=hm;exact⟨o,es,ep,k _ o (λz=>(hf _ z).2.1 rfl) ho,r⟩
 ·by_cases hb:b=s.heap.objs.size
  ·subst hb;rw[bh]at e;cases e;exact new
  ·rw[aD hb]at e;refine(I.aA b u e).kN (λc v hc q=>k c v ?_ q) (λc q=>by rw[aD (neT c _ q)];exact q) λc xs q=>by rw[aD (neT c _ q)];exact q
   rcases hc with z|z
   ·rw[z];exact jS b u e
   ·exact jS c _ z
end
def yV(K:Uw)(a:Addr):It :=
 ⟨λi H=>∃xs x,bf K H a xs∧xs[i]?=some x,λi H x H'=>∃t y,x=.ref t∧H t=none∧H'=upd H t (.tup [.int i,y])∧∀xs,bf K H a xs→xs[i]?=some y,λi H=>∃xs,bf K H a xs∧xs.length≤i⟩
def Ig{P:Program}{w:World}{K:Uw}{elts:U2}{x1}{pos:Pos}(a e it:Addr)(iA:e≠it):Turn P w K (.Tuple elts x1 pos) (yV K a) [e,it] e (λi h=>(∃old,IsEnum h e it i old)∧h.IsListIter it a i) where
 mem:=by simp
 obj:=λi h st b hb=>by
  let⟨⟨old,he⟩,o,ho,c,d⟩:=st;rcases cS.mp hb with rfl|hb
  ·exact⟨_,he,λv z=>nomatch z⟩
  ·let e:b=it:=by simpa using hb
   subst e;exact⟨o,ho,λv z=>by rw[d]at z;cases z⟩
 keep:=λi h h' st k=>by
  let⟨⟨old,he⟩,hit⟩:=st;exact⟨⟨old,k e (by simp) _ he⟩,hit.at λo q=>k it (by simp) o q⟩
 item:=by
  intro X hP hw hK hc i pins s σ H E I hf st hg;subst hP hw hK;let⟨xs,x,hq,hx⟩:=hg;let⟨its,rv,p,hz⟩:=I.list hq;let⟨u,hu,ru⟩:=rv.get hx;let⟨⟨old,he⟩,hit⟩:=st;let Ft:e<s.heap.objs.size:=bu he;let Rl:it<s.heap.objs.size:=by let⟨_,q,_⟩:=hit;exact bu q
  let hT:H s.heap.objs.size=none:=I.aA.fresh (aK _);refine wpAny_pyNext_enum_item he hit p.isList (x:=u) (by simpa using hu) iA λh1 ho Qq ht hsz hk=>⟨_,rfl,?_⟩;refine wpAny_letOwnedTupleGo_enum ho λh2 Rm sb=>?_;let Rn:h2.get? s.heap.objs.size=some { cls:=.type "tuple",data:=.seq #[.int i s.toks,u] }:=(sb.2 _ (Nat.ne_of_gt Ft)).trans ht;let k2:∀b o,b∉[e,it]→s.heap.get? b=some o→h2.get? b=some o:=λb o nb q=>by
   let n1:b≠e:=λz=>nb (by simp[z]);let n2:b≠it:=λz=>nb (by simp[z]);exact(sb.2 b n1).trans (hk b o n1 n2 q)
  refine⟨.ref s.heap.objs.size,upd H s.heap.objs.size (.tup [.int i,x]),?_,rfl,⟨s.heap.objs.size,x,rfl,hT,rfl,λys hy=>by rw[I.qL hy hq];exact hx⟩,⟨⟨_,by simpa using Rm⟩,Qq.at λo q=>(sb.2 it iA.symm).trans q⟩,λb hb=>?_⟩
  ·refine Hi (t':=s.toks+1) I k2 hf ⟨by show 2≤sizeLine;decide,[.int i s.toks,u],.cons ⟨_,rfl⟩ (.cons ru .nil),⟨_,Rn,rfl,rfl,_,rfl⟩⟩
  ·let uQ:b<s.heap.objs.size:=by
    rcases cS.mp hb with rfl|hb
    ·exact Ft
    ·let e:b=it:=by simpa using hb
     rw[e];exact Rl
   rw[aD (cR uQ)];exact(hf b hb).1
 done:=by
  intro X hP hw hK hc i pins s σ H E I hf st hg;subst hP hw hK;let⟨xs,hq,hx⟩:=hg;let⟨its,rv,p,hz⟩:=I.list hq;let⟨⟨old,he⟩,hit⟩:=st;let hl:=rv.length;refine wpAny_pyNext_enum_end (I.ok.hd hc) he hit p.isList (by simp;omega) λh1 eb=>⟨rfl,?_⟩;exact Hy (fp:=[e,it]) (t':=s.toks) I (λb o nb q=>eb b o (λz=>nb (by simp[z])) q) hf
 self:=λA i s Q E st h=>by
  let⟨⟨old,he⟩,_⟩:=st;exact wpAny_pyIter_enum he h
section
variable {X:Cx}
def wM(K:Uw)(ta:TA):TI:=λσ H R=>ta σ H λvs H1=>∃a xs,vs=[.ref a]∧bf K H1 a xs∧R (yV K a) H1
def K5 {a:Expr}{ta:TA}{p pos pos':Pos}{elts:U2} {x1} (hg:Gl X "enumerate") (hm:X.mg "enumerate" = none) (ha:PA X [a] ta) (hs:starEach [a] X.env=[(false,eval a X.env)]:=by rfl):PI X (.Tuple elts x1 pos') (.Call (.Name "enumerate" p) [a] [] pos) (wM X.K ta):=by
 intro pins s σ H R I h;refine Call_ (lQ I hg hm PyProof.Rows.Boot.«enumerate» (tV (ay (ha pos pins s σ H _ I h) λus s1 ⟨vs,H1,I1,r1,q1⟩=>?_) hs rfl));let⟨l,xs,e,hq,q⟩:=q1;subst e;cases r1 with
 |cons r rr =>
  cases rr;cases r;let⟨its,rv,pl,hz⟩:=I1.list hq;refine call_enumerate_list pl.isList λh1 he hit hsz hk=>?_;let I2:L2.Inv X pins σ H1 { s1 with heap:=h1 }:=I1.kept (t':=s1.toks) hk;refine wpAny_pyIter_enum he ?_;let n1:s1.heap.objs.size+1≠s1.heap.objs.size:=by omega
  refine⟨s1.heap.objs.size+1,[s1.heap.objs.size+1,s1.heap.objs.size],_,_,H1,rfl,I2,Ig l _ _ n1,⟨⟨_,he⟩,hit⟩,λb hb=>?_,q⟩;let uQ:s1.heap.objs.size≤b:=by
   rcases cS.mp hb with rfl|hb
   ·omega
   ·let e:b=s1.heap.objs.size:=by simpa using hb
    exact mS e.symm
  let z:=I1.my (H':=H1) uQ (I1.aA.fresh uQ);exact z
def Jv {K:Uw}{a:Expr}{ta:TA}{p pos pos':Pos}{elts:U2} {x1} (hK:X.K=K) (hg:Gl X "enumerate") (hm:X.mg "enumerate" = none) (ha:PA X [a] ta) (hs:starEach [a] X.env=[(false,eval a X.env)]:=by rfl):PI X (.Tuple elts x1 pos') (.Call (.Name "enumerate" p) [a] [] pos) (wM K ta):=by subst hK;exact K5 hg hm ha hs
end
abbrev bX(ds:Ut):Ut:=ds.mapIdx λi d=>.tup [.int i,d]
def fh(fs:Um):Ev→Option (M×Ut):=λe=>(fs e).bind λl=>match l with
 |[(m,.lst ds)]=>(iB m).map λn=>(n,bX ds)
 |_=>none
section
variable {K:Uw}{H H' H₀:Hp}{O O':Uv}{σ:L2.St}{env:Ev}
def Ih{a:Addr}{xs:List V}{ds:Ut}{n:M}(e:du n=true)(on:∀a o,O a→H a=some o→¬fS o)(hr:(Rd H a (.lst xs)∧¬O a)∨uJ K a xs)(r:ao K (NM H₀ O n) H xs ds):iP K H₀ O (yV K a) H n (bX ds):=by
 let st:∀{O2:Uv}{H2:Hp},aH O H O2 H2→bf K H2 a xs:=λ{O2 H2} s=>by
  rcases hr with⟨h|⟨o,h⟩,ha⟩|h
  ·exact .inl (.inl (s _ _ h ha).1)
  ·exact .inl (.inr ⟨o,(s _ _ h ha).1⟩)
  ·exact .inr h
 let l:(bX ds).length=ds.length:=by simp[bX]
 refine⟨λO2 H2 i s hi=>?_,λO2 H2 i x H3 s hi y=>?_,λO2 H2 s=>⟨xs,st s,by rw[r.len,l];exact aK _⟩⟩
 ·rw[l]at hi;exact⟨xs,xs[i]'(by rw[r.len];exact hi),st s,by simp⟩
 ·rw[l]at hi;let⟨t,z,rfl,ht,rfl,y⟩:=y;let y:=y xs (st s);let⟨v,hv,rv⟩:=r.get (i:=i) (d:=ds[i]) (by simp[hi]);rw[y]at hv;cases hv;let sm:aB H2 (upd H2 t (.tup [.int i,z])):=bZ ht;let hz:=(vQ e on s rv).keep sm;refine⟨sm,.tup [.int i,ds[i]],by simp[bX,hi],?_⟩;cases n
  ·exact Rp.tup (aQ.of bh) (.cons (.int _) (.cons hz .nil))
  ·exact Rp.tup (aQ.of bh) (.cons (.int _) (.cons hz .nil))
  ·cases e
  ·cases e
  ·cases e
  ·cases e
  ·cases e
  ·cases e
set_option tactic.hygienic true in
def K6{t:TA}{fs:Um}(h:gZ K t fs):JI K (wM K t) (fh fs):=by
 intro H₀ O H σ env R m ds Re e q;let⟨l,el,e⟩:=ak e;split at e
 ·rename_i m0 d0;cases em:iB m0 with
  |none=>rw[em]at e;cases e
  |some n =>
   rw[em]at e;cases e;refine h H₀ O H σ env _ _ Re el λvs H1 s1 h1=>?_;let⟨v,rfl,hv⟩:=h1.one;let⟨e1,a,xs,rfl,hr,r⟩:=BF em hv;exact⟨a,xs,rfl,hr.elim (λz=>.inl z.1) .inr,q _ H1 s1 e1 (Ih e1 (Re.keep s1).on hr r)⟩
 ·cases e
end
end J
namespace J
open PySem L2
def pO:D→Bool
 |.lst ds=>D.dJ ds
 |.dk ks=>D.dJ (ks.map (·.2))
 |.dt ks=>D.dJ (ks.map (·.2))
 |_=>false
def i7(io:U0)(vs:List V)(a:Addr):Prop:=∃i,i∈io∧vs[i]?=some (.ref a)
structure C2 (K:Uw)(H:Hp)(io:U0)(vs:List V)(ds:Ut):Prop where
 len:vs.length=ds.length
 rd:∀(i:Nat) v d,i∉io→vs[i]?=some v→ds[i]?=some d→Rp K (λa=>¬i7 io vs a) H v d
 cl:∀(i:Nat) d,i∈io→ds[i]?=some d→∃p,vs[i]?=some (.ref p)∧Cell K (λ_=>False) H p d
 dj:∀(i j:Nat) p,i∈io→j∈io→vs[i]?=some (.ref p)→vs[j]?=some (.ref p)→i=j
abbrev jv(io:U0)(ds:Ut):Ev:=ds.mapIdx λi d=>some (if i∈io then M.bi else M.al,d)
section
variable {K:Uw}{H H' H₀:Hp}{I:Nat→Uz}{O O':Uv}{σ:L2.St}{env:Ev}
theorem Cell.im{N N':Uv}{p:Addr}{d:D}(e:pO d=true)(h:Cell K N H p d):Cell K N' H p d:=by
 cases d<;>simp only[pO]at e<;>try (cases e;done)
 ·let⟨xs,q,r⟩:=h;exact⟨xs,q,r.im e⟩
 ·let⟨xs,q,z,r⟩:=h;exact⟨xs,q,z,r.im e⟩
 ·let⟨xs,q,z,r⟩:=h;exact⟨xs,q,z,r.im e⟩
set_option tactic.hygienic true in
def Hj{io:U0}{N:U3}{vs:List V}{ds:Ut}(A:C2 K H io vs ds):∃I0:Nat→Uz,(∀{i p},I0 i=some p→i∈io∧vs[i]?=some (.ref p))∧Rel K H I0 (i7 io vs) H (L2.start N vs) (jv io ds++List.replicate (N.length-ds.length) none):=by
 refine(let I0:Nat→Uz:=λi=>if i∈io then (match vs[i]? with|some (.ref p)=>some p|_=>none)else none;?_)
 let m9:∀{i p},I0 i=some p→i∈io∧vs[i]?=some (.ref p):=λ{i p} z=>by
  simp only[I0]at z;split at z
  ·rename_i hi;split at z
   ·rename_i w hw;cases z;exact⟨hi,hw⟩
   ·cases z
  ·cases z
 let Fu:∀{i p},i∈io→vs[i]?=some (.ref p)→I0 i=some p:=λ{i p} hi hv=>by simp only[I0,if_pos hi,hv]
 let nT:∀{i:Nat}{y:M×D},(jv io ds++List.replicate (N.length-ds.length) none)[i]?=some (some y)→ds[i]?=some y.2∧y.1=(if i∈io then M.bi else M.al):=λ{i y} z=>by
  rw[List.getElem?_append]at z;split at z
  ·rename_i hi;simp only[jv,List.getElem?_mapIdx,List.length_mapIdx]at z hi;rw[fI hi]at z ⊢;simp only[Option.map_some,Option.some.injEq]at z;subst z;exact⟨rfl,rfl⟩
  ·have:=c9 z;have:=uj this;cases this
 let tE:∀{i:Nat}{v:V},vs[i]?=some v→(L2.start N vs)[i]?=some (some v):=λ{i v} z=>by
  unfold L2.start;let hi:i<vs.length:=(bQ.mp z).1;rw[oK (by simpa using hi),dN,z];rfl
 refine⟨I0,m9,?_⟩;show Rel K H I0 (i7 io vs) H (L2.start N vs) (jv io ds++List.replicate (N.length-ds.length) none);refine⟨⟨jo ?_ ?_,?_,λa o e=>⟨o,e⟩,?_⟩,λa o _ e=>e,?_,?_,?_,?_⟩
 ·unfold L2.start jv;simp[A.len]
 ·intro j y z hy hz m' d' ey;subst ey;let⟨hd,hm⟩:=nT hy;let hj:j<vs.length:=by rw[A.len];exact(bQ.mp hd).1
  let hv:vs[j]?=some vs[j]:=fI hj;rw[tE hv]at hz;cases hz;simp only at hm hd;by_cases hi:j∈io
  ·rw[if_pos hi]at hm;subst hm;let⟨p,hp,c⟩:=A.cl j d' hi hd;rw[hv]at hp;refine⟨rfl,_,rfl,p,cY hp,⟨j,hi,by rw[hv,hp]⟩,c.wk λ_ z _=>z.elim⟩
  ·rw[if_neg hi]at hm;subst hm;exact⟨rfl,_,rfl,A.rd j _ d' hi hv hd⟩
 ·rintro a ⟨i,hi,hv⟩;let aW:i<ds.length:=by rw[←A.len];exact(bQ.mp hv).1
  let⟨p,hp,c⟩:=A.cl i ds[i] hi (fI aW);rw[hv]at hp;cases hp;let⟨o,eo,_⟩:=c.some;exact⟨o,eo⟩
 ·rintro a o ⟨i,hi,hv⟩ eo;let aW:i<ds.length:=by rw[←A.len];exact(bQ.mp hv).1
  let⟨p,hp,c⟩:=A.cl i ds[i] hi (fI aW);rw[hv]at hp;cases hp;let⟨o',Fv,nt⟩:=c.some;rw[eo]at Fv;cases Fv;exact nt
 ·rintro a ⟨i,hi,hv⟩;exact .inl ⟨i,Fu hi hv⟩
 ·intro i d' p h1 p1;let⟨hd,hm⟩:=nT h1;by_cases hi:i∈io
  ·let⟨p',hp,_⟩:=A.cl i d' hi hd;rw[tE hp]at p1;cases p1;exact Fu hi hp
  ·rw[if_neg hi]at hm;cases hm
 ·intro i j y z p h1 h2 o1 o2 p1 p2;let⟨d1,m1⟩:=nT h1;let⟨d2,m2⟩:=nT h2;let hi:i∈io:=by
   by_cases hi:i∈io
   ·exact hi
   ·rw[if_neg hi]at m1;rw[m1]at o1;cases o1
  let hj:j∈io:=by
   by_cases hj:j∈io
   ·exact hj
   ·rw[if_neg hj]at m2;rw[m2]at o2;cases o2
  let⟨q1,Fw,_⟩:=A.cl i _ hi d1;let⟨q2,ly,_⟩:=A.cl j _ hj d2;rw[tE Fw]at p1;cases p1;rw[tE ly]at p2;cases p2;exact A.dj i j p hi hj Fw ly
 ·let no:∀{i:Nat}{d:D},(jv io ds++List.replicate (N.length-ds.length) none)[i]?=some (some (M.nb,d))→False:=λ{i d} z=>by
   let⟨_,hm⟩:=nT z;simp only at hm;split at hm<;>cases hm
  exact⟨λi j d d' h1=>(no h1).elim,λi j d x p q xs h1=>(no h1).elim⟩
end
section
variable {K:Uw}{H H' H₀:Hp}{I:Nat→Uz}{O O':Uv}{σ:L2.St}{env:Ev}
end
section
variable {K:Uw}{H H' H₀:Hp}{I:Nat→Uz}{O O':Uv}{σ:L2.St}{env:Ev}
theorem fB.at{Hb:Hp}:∀{aF:List (M×D)}{vs:List V}{i:Nat}{x:M×D},fB K H₀ O Hb H aF vs→aF[i]?=some x→∃v,vs[i]?=some v∧Val K H₀ O Hb H x.1 x.2 v
 |_,_,_,_,.nil,e=>by simp at e
 |_,_,0,_,.cons h _,e=>by simp at e;subst e;exact⟨_,rfl,h⟩
 |_,_,i+1,x,.cons _ r,e=>by
  let⟨v,h1,h2⟩:=fB.at (i:=i) (x:=x) r (by simpa using e);exact⟨v,by simpa using h1,h2⟩
theorem qK{α:Type}:∀{l:List α}{i j:Nat}{a:α},l.Nodup→l[i]?=some a→l[j]?=some a→i=j
 |[],_,_,_,_,h,_=>by simp at h
 |x::l,0,0,_,_,_,_=>rfl
 |x::l,0,j+1,a,nd,h1,h2=>by
  simp at h1;subst h1;exact absurd (c9 (show l[j]?=some x by simpa using h2)) (iR.mp nd).1
 |x::l,i+1,0,a,nd,h1,h2=>by
  simp at h2;subst h2;exact absurd (c9 (show l[i]?=some x by simpa using h1)) (iR.mp nd).1
 |x::l,i+1,j+1,a,nd,h1,h2=>by
  rw[qK (iR.mp nd).2 (show l[i]?=some a by simpa using h1) (by simpa using h2)]
structure Tw (io sl:U0)(pos:List (Nat×Nat))(aF:List (M×D)):Prop where
 c1:∀(k i:Nat),io[k]?=some i→∃j,sl[k]?=some j∧(i,j)∈pos
 c2:sl.Nodup
 c3:∀(i:Nat) x,i∉io→aF[i]?=some x→gw x.1 x.2=true∨(own x.1=true∧∃j,(i,j)∈pos∧j∉sl)
 c4:∀(i:Nat) x,i∈io→aF[i]?=some x→own x.1=true∧pO x.2=true
 c5:sl.length=io.length
end
mutual
abbrev toPy:D→PyData
 |.non=>.none
 |.bl b=>.bool b
 |.int i=>.int i
 |.str x=>.str x
 |.tup ds=>.tuple (cF ds)
 |.lst ds=>.list (cF ds)
 |.ty _=>.none
 |.dk _=>.none
 |.dt _=>.none
abbrev cF:Ut→List PyData
 |[]=>[]
 |d::ds=>toPy d::cF ds
end
mutual
abbrev plain:D→Bool
 |.tup ds=>cV ds
 |.lst ds=>cV ds
 |.ty _=>false
 |.dk _=>false
 |.dt _=>false
 |.non=>true
 |.bl _=>true
 |.int _=>true
 |.str _=>true
abbrev cV:Ut→Bool
 |[]=>true
 |d::ds=>plain d&&cV ds
end
section
variable {K:Uw}{H H' H₀:Hp}{O O':Uv}{σ:L2.St}{env:Ev}
def rV{N:Uv}{v:V}{d:D}(e:plain d=true)(h:Rp K N H v d):Dn K H v (toPy d):=Rp.rec (motive_1:=λv d _=>plain d=true→Dn K H v (toPy d)) (motive_2:=λvs ds _=>cV ds=true→a7 K H vs (cF ds)) (λ_=>.non) (λb _=>.bl b) (λi _=>.int i) (λx _=>.str x) (λ_ e=>by cases e) (λh _ r e=>.tup h (r e)) (λh _ _ r e=>.lst (.inl h) (r e)) (λh _ r e=>.lst (.inr h) (r e)) (λ_ _ _ _ _ e=>by cases e) (λ_ _ _ _ _ e=>by cases e) (λ_=>.nil) (λ_ _ h r e=>.cons (h (Bool.and_eq_true_iff.mp e).1) (r (Bool.and_eq_true_iff.mp e).2)) h e
abbrev kE:D→D→Bool
 |.lst _,.lst _=>true
 |.tup _,.tup _=>true
 |.non,.non=>true
 |_,_=>false
def BL{a b:D}(h:kE a b=true):kR (toPy a) (toPy b):=by
 cases a<;>try (cases h;done)
 all_goals cases b<;>try (cases h;done)
 ·simp only[toPy];exact .non
 ·simp only[toPy];exact .tup _ _
 ·simp only[toPy];exact .lst _ _
def gi(a b:D):Bool:=plain a&&plain b&&kE a b&&decide (min (toPy a).depth (toPy b).depth≤60)
def gj:M×D→M×D→Us:=λa b=>if gi a.2 b.2=true then some (.fr,.bl (PyData.eqv (toPy a.2) (toPy b.2)))else none
def dA:M×D→M×D→Us:=λa b=>if gi a.2 b.2=true then some (.fr,.bl (!PyData.eqv (toPy a.2) (toPy b.2)))else none
def A5{a b:D}(h:gi a b=true):plain a=true∧plain b=true∧kE a b=true∧min (toPy a).depth (toPy b).depth≤60:=by
 unfold gi at h;simp only[Bool.and_eq_true,decide_eq_true_eq]at h;exact⟨h.1.1.1,h.1.1.2,h.1.2,h.2⟩
def C3:JR K (tf K) gj:=by
 intro H₀ O H x y a b Q m d _ _ h1 h2 h q;unfold gj at h;split at h
 ·rename_i ok;cases h;let⟨p1,p2,l,dp⟩:=A5 ok;exact⟨_,_,rV p1 h1.weak,rV p2 h2.weak,BL l,dp,q _ H (aB.refl H) cP⟩
 ·cases h
def Nr:JR K (xh K) dA:=by
 intro H₀ O H x y a b Q m d _ _ h1 h2 h q;unfold dA at h;split at h
 ·rename_i ok;cases h;let⟨p1,p2,l,dp⟩:=A5 ok;exact⟨_,_,rV p1 h1.weak,rV p2 h2.weak,BL l,dp,q _ H (aB.refl H) cP⟩
 ·cases h
def Nt{X:Cx}(h:X.K=K)(hu:X.A.units+64<cLine):a8 X (compareOp .Eq) (tf K):=by subst h;exact CM hu
def Nu{X:Cx}(h:X.K=K)(hu:X.A.units+64<cLine):a8 X (compareOp .NotEq) (xh K):=by subst h;exact MG hu
def Nv{n:Nat}{gs:fL}{fs:M→Ut→Ev→Option Ev}(hs:m8 K gs fs):JG K (Ew K n gs) (gL n fs):=by
 intro H₀ I O H σ env x v fE Q R hm hv e q;let⟨m,d⟩:=x;cases d<;>simp only[gL]at e<;>try (cases e;done)
 split at e
 ·rename_i hl;let⟨a,xs,rfl,m7,r⟩:=hv.lst;exact⟨a,xs,rfl,m7,by rw[r.len];exact hl,hs H₀ I O H σ env (aI m) _ xs fE Q R (by cases m<;>first|rfl|cases hm) r e q⟩
 ·cases e
def K7{X:Cx}{tg l:Expr}{tl:TE}(h:X.K=K)(hl:PE X l tl):PI X tg l (wW K tl):=by subst h;exact Mg hl
def G3{X:Cx}(h:X.K=K):f6 X (.type "list") (λxs H Q=>∃p ys,xs=[.ref p]∧(bf K H p ys∨aQ K H p ys)∧∀l,H l=none→Q (.ref l) (upd H l (.lst ys))):=by subst h;exact G4
end
theorem vz{fc:Up}{fe:Uq}{m:M}{fr:Ev}{P:D→Prop}:∀{ds:Ut},(∀d∈ds,fc (some (m,d)::fr)=some true∧∃x,fe (some (m,d)::fr)=some (.fr,x)∧P x)→∃xs:Ut,dG fc fe m fr ds=some (xs.map λx=>(M.fr,x))∧xs.length=ds.length∧∀x∈xs,P x
 |[],_=>⟨[],rfl,rfl,λ_ h=>nomatch h⟩
 |d::ds,h=>by
  let⟨h1,x,h2,h3⟩:=h d bC;let⟨xs,q1,q2,q3⟩:=vz (ds:=ds) λe he=>h e (bP _ he);refine⟨x::xs,?_,by rw[gq,gq,q2],λy hy=>?_⟩
  ·rw[dG,h1,k9,if_pos rfl,h2,k9,q1,k9];rfl
  ·rcases cS.mp hy with rfl|hy
   ·exact h3
   ·exact q3 y hy
def BM{xs:Ut}(h:xs.length≤1000):cQ (xs.map λx=>(M.fr,x))=some (.un,.lst xs):=by
 unfold cQ;rw[if_pos (by rw[dC];exact cC h (by decide)),if_pos (by rw[List.all_map];exact fH.mpr λ_ _=>rfl),gU];congr 3;exact List.map_id xs
def One(d:D):Prop:=∃c:Nat,d=.str ⟨#[c]⟩
def BO{m n:M}{x:Str}{i:Int}(hs:x.length≤sizeLine)(h0:0≤i)(h1:i<x.cps.toList.length):∃d,aC (m,.str x) (n,.int i)=some (.fr,d)∧One d:=by
 rw[Pn hs,iI h0 h1];exact⟨_,rfl,_,rfl⟩
noncomputable abbrev Ko:=Sum Int Str
abbrev kD:Ko→D
 |.inl i=>.int i
 |.inr x=>.str x
def wm(k:Ko):(kD k).bD=true:=by cases k<;>simp only[kD,D.bD]
inductive Row where
 |rk (x s:Str) (a b:Ko)|cp (x:Str) (a:Ko)|sy (a:Ko)|go (t:Int)|pt (a:Ko) (t:Int)|en
abbrev Row.ds:Row→Ut
 |.rk x s a b=>[.str "reckon",.str x,.str s,kD a,kD b]
 |.cp x a=>[.str "copy",.str x,kD a]
 |.sy a=>[.str "say",kD a]
 |.go t=>[.str "go",.int t]
 |.pt a t=>[.str "part",kD a,.int t]
 |.en=>[.str "end"]
abbrev Row.d(r:Row):D:=.tup r.ds
theorem Row.bD(r:Row):r.d.bD=true:=by cases r<;>simp only[Row.d,Row.ds,D.bD,D.dJ,wm,Bool.and_self]
theorem vG:∀rs:List Row,D.dJ (rs.map Row.d)=true
 |[]=>by simp only[List.map_nil,D.dJ]
 |r::rs=>by simp only[List.map_cons,D.dJ,Row.bD,vG rs,Bool.and_self]
abbrev Row.word:Row→Str
 |.rk _ _ _ _ => "reckon"
 |.cp _ _ => "copy"
 |.sy _ => "say"
 |.go _ => "go"
 |.pt _ _ => "part"
 |.en => "end"
def Row.Ro(r:Row):L2.aT r.ds 0=some (.str r.word):=by cases r<;>rfl
def Jw{ns:U3}{k:Int}(h0:0≤k)(h1:k<ns.length):∃c,L2.aT (ns.map D.str) k=some (.str c):=by
 rw[iI h0 (by simpa using h1)];exact⟨ns[k.toNat]'(by omega),by simp⟩
section
variable {K:Uw}{H H' H₀:Hp}{O:Uv}{σ:L2.St}{env:Ev}
abbrev lV:Uq:=λ_=>some (.un,.dk [])
def Jx:JT K Cy lV:=by
 intro H₀ O H σ env Q m d R h q;cases h;intro p hp;refine q _ _ (bZ hp) ⟨p,rfl,hp,g5 R.hd hp,eh R.od hp,[],bh,rfl,.nil⟩
def Nw{a:Addr}{xs:List V}{ds:Ut}(w:∀H:Hp,aQ K H a xs)(r:∀(N:Uv) (H:Hp),ao K N H xs ds):JT K (tC (.ref a)) (jC (.tup ds)):=by
 intro H₀ O H σ env Q m d' R h q;cases h;exact q _ H (aB.refl H) (Rp.tup (w H) (r _ H))
theorem Ab{N:Uv}:∀(ys:U3),ao K N H (ys.map V.str) (ys.map D.str)
 |[]=>.nil
 |y::ys=>.cons (.str y) (Ab ys)
end
def K8{u:Value}{y:Str}(h:mx u=some (V.str y)):RelV (.str y) u:=by
 cases u<;>simp only[mx]at h<;>cases h;exact⟨_,rfl⟩
theorem A6:∀{us:Uy}{ys:U3},us.map mx=ys.map (λy=>some (V.str y))→Vals (ys.map V.str) us
 |[],[],_=>.nil
 |[],_::_,h=>by cases h
 |_::_,[],h=>by cases h
 |u::us,y::ys,h=>by
  rw[cj,cj]at h;exact .cons (K8 (uk h).1) (A6 (uk h).2)
def K9 {K:Uw}{a:Addr}{its:Array Value}{n:Nat}{sl:Array (Option Value)}{ys:U3} (l:K.lookup a=some ⟨.type "tuple",none,.seq its n,sl⟩) (v:its.toList.map mx=ys.map (λy=>some (V.str y))) (hz:4≤ys.length∧ys.length≤1000) (H:Hp):aQ K H a (ys.map V.str):=by
 let r:=A6 v;let e:=r.length;simp only[List.length_map,Array.length_toList]at e;exact .inr ⟨_,its,n,l,rfl,rfl,rfl,cC (by omega) (show 1000≤sizeLine by decide),by omega,r⟩
section
variable {K:Uw}{H H₀:Hp}{O:Uv}
abbrev pP(z:Str):Ut:=z.cps.toList.map λc=>.str ⟨#[c]⟩
def Jy{z:Str}:iP K H₀ O (uI z) H .fr (pP z):=by
 let l:(pP z).length=z.cps.size:=by simp[pP]
 refine⟨λO2 H2 i s hi=>by rw[l]at hi;exact hi,λO2 H2 i x H3 s hi y=>?_,λO2 H2 s=>by rw[l];exact aK z.cps.size⟩;let⟨rfl,c,hc,rfl⟩:=y;refine⟨aB.refl _,.str ⟨#[c]⟩,?_,Rp.str _⟩;unfold pP;rw[dN,t7,hc];rfl
def yW(f:Uq):Ev→Option (M×Ut):=λe=>(f e).bind λx=>match x.2 with
 |.str z=>some (.fr,pP z)
 |_=>none
def Nx{t:TE}{f:Uq}(h:JT K t f):JI K (Ex t) (yW f):=by
 intro H₀ O H σ env R m ds Re e q;let⟨⟨m0,d0⟩,ex,e⟩:=ak e;cases d0<;>simp only at e<;>try (cases e;done)
 cases e;refine h H₀ O H σ env _ _ _ Re ex λv H1 s1 h1=>?_;exact⟨_,h1.str,q _ H1 s1 rfl Jy⟩
end
end J
namespace L2
open PySem
end L2
namespace J
open PySem L2
section
variable {m n:M}{z:Str}{i:Int}{b:Bool}{ds:Ut}{ks:List (Key×D)}{kt:List (List Key×D)}
def Hk:mE [(m,.int i),(n,.ty "int")]=some (.fr,.bl true):=rfl
def G7:mE [(m,.int i),(n,.ty "bool")]=some (.fr,.bl false):=rfl
end
section
variable {K:Uw}
end
structure dE (X:Cx)(st:Stmt)(t:TS):Prop where
 go:PS X st t
structure gQ (X:Cx)(ss:List Stmt)(t:TS):Prop where
 go:dR X ss t
section
variable {X:Cx}{st:Stmt}{rest a b body:List Stmt}{t u tb:TS}{e c iter tg o i value:Expr}{te td ty tv:TE}{tc:TT}{g:TG}{wi:TI}{pos pos':Pos}{k:Nat}{x:Str}
def BP:gQ X [] rL:=⟨Kd⟩
def qR(h1:dE X st t)(h2:gQ X rest u):gQ X (st::rest) (jL t u):=⟨IL h1.go h2.go⟩
def BQ(h1:dE X st t):gQ X [st] t:=⟨Ke h1.go⟩
def nQ(he:PE X e te)(hs:swapsWith e none pos.line X.env=pure false:=by rfl):dE X (.Expr e pos) (km te):=⟨Kf he hs⟩
def wo(he:PE X e te):dE X (.Return (some e) pos) (oi te):=⟨Ma he⟩
def DY(hc:PT X c tc)(ha:gQ X a t)(hb:gQ X b u):dE X (.If c a b pos) (sC tc t u):=⟨OI hc ha.go hb.go⟩
def Ny(he:PE X e te)(hg:PG X tg g)(hs:swapsWithSole [tg] e pos.line X.env=pure false:=by rfl)(hw:swappedStores [tg] e X.env=pure none:=by rfl)
 (h1:(assignEach [tg] X.env).map (·.2)=[assign tg X.env]:=by rfl):dE X (.Assign [tg] e pos) (gJ te g):=⟨Md he hg hs hw h1⟩
def Nz{i:Nat}(hN:X.N.Nodup)(hi:X.N[i]?=some x)(hx:Loc X.env.scope x)(he:PE X e te)(hs:swapsWith e (some (.Name x pos')) pos.line X.env=pure false:=by rfl)(hf:X.fn x=true∨X.env.scope.names.lookup x=some .local:=by first|exact .inl rfl|exact .inr rfl|assumption) :
 dE X (.Assign [.Name x pos'] e pos) (gJ te (ft i)):=⟨Mf hN hi hx he hs hf⟩
def Jz(hp:PassesOwn (model X.prog X.w) X.A X.env X.xe)(hc:PT X c tc)(hb:gQ X body tb):dE X (.While c body [] pos) (v9 tc tb):=⟨IQ hp hc hb.go⟩
def C4(hp:PassesOwn (model X.prog X.w) X.A X.env X.xe)(hc:X.calm=true)(hi:PI X tg iter wi)(hg:PG X tg g)(hb:gQ X body tb)
 (hs:∀x,foldedSetIterable iter X.env x=pure x:=by intro _;rfl):dE X (.For tg iter body [] pos) (sE wi g tb):=⟨Mh hp hc hi hg hb.go hs⟩
def vT(hu:X.A.units+1<cLine)(ho:PE X o td)(hi:PE X i ty)(hv:PE X value tv)(hs:swapsWith value (some (.Subscript o i pos')) pos.line X.env=pure false) :
 dE X (.Assign [.Subscript o i pos'] value pos) (n8 td ty tv):=⟨Kt hu ho hi hv hs⟩
def Ac{N':U3}{aj:Scope}{ix:U0}{elt:Expr}{ifs:U2}{px:Pos}{i:Nat}{y:Str}{py ox:Pos}(hN:X.N.Nodup)(yI:X.N[i]?=some y)(hy:X.env.scope.names.lookup y=some .local)(ok:iJ X.N N' X.env.scope aj x ix)(hc:X.calm=true)(hi:PI X (.Name x px) iter wi)(fP:∀C s₂ H₂ fp pn,i3 (X.aV N' aj C s₂ H₂ fp pn) ifs tc)
 (eV:∀C s₂ H₂ fp pn,PE (X.aV N' aj C s₂ H₂ fp pn) elt te) (yJ:swapsWith (.ListComp elt [⟨.Name x px,iter,ifs,0⟩] aj pos) (some (.Name y py)) ox.line X.env=pure true:=by rfl)
 (hs:∀x,foldedSetIterable iter X.env x=pure x:=by intro _;rfl):dE X (.Assign [.Name y py] (.ListComp elt [⟨.Name x px,iter,ifs,0⟩] aj pos) ox) (gJ (lZ wi ix tc te) (ft i)):=⟨Ht hN yI hy ok hc hi fP eV yJ hs⟩
def JA:dE X st (λ_ _ _=>False):=⟨λ_ _ _ _ _ _ h=>h.elim⟩
end
abbrev keyOf:D→Option Key
 |.int i=>some (.inl i)
 |.str x=>some (.inr x)
 |.non=>some .non
 |_=>none
abbrev cB{κ:Type}[DecidableEq κ](ks:List (κ×D))(k:κ):Option D:=(ks.find? λkv=>decide (kv.1=k)).map (·.2)
abbrev putD{κ:Type}[DecidableEq κ](ks:List (κ×D))(k:κ)(d:D):List (κ×D) :=
 if (ks.any λkv=>decide (kv.1=k))=true then ks.map (λkv=>if kv.1=k then (kv.1,d)else kv)else ks++[(k,d)]
section
variable {K:Uw}{H H' H₀:Hp}{I:Nat→Uz}{O:Uv}{σ:L2.St}{env:Ev}
def jt{N:Uv}{d:D}{k:Key}{v:V}(e:keyOf d=some k)(h:Rp K N H v d):v=kV k:=by
 cases d<;>simp only[keyOf]at e<;>cases e
 ·exact h.Bz
 ·exact h.int_inv
 ·exact h.str_inv
def Ent{κ:Type}(K:Uw)(N:Uv)(H:Hp)(ae:List (κ×V))(ks:List (κ×D)):Prop:=ae.map (·.1)=ks.map (·.1)∧ao K N H (ae.map (·.2)) (ks.map (·.2))
def Ent.cons_inv{κ:Type}{N:Uv}{p:κ×V}{ae:List (κ×V)}{q:κ×D}{ks:List (κ×D)}(h:Ent K N H (p::ae) (q::ks)):p.1=q.1∧Rp K N H p.2 q.2∧Ent K N H ae ks:=by
 let⟨e,r⟩:=h;rw[cj,cj]at e r;let⟨e1,e2⟩:=uk e;cases r with|cons a b=>exact⟨e1,a,e2,b⟩
def Ent.len{κ:Type}{N:Uv}{ae:List (κ×V)}{ks:List (κ×D)}(h:Ent K N H ae ks):ae.length=ks.length:=by
 have:=bT List.length h.1;simpa using this
theorem Ent.val{κ:Type}[DecidableEq κ]{N:Uv}:∀{ae:List (κ×V)}{ks:List (κ×D)} (k:κ),Ent K N H ae ks→(cB ks k=none∧cx ae k=none)∨∃d v,cB ks k=some d∧cx ae k=some v∧Rp K N H v d
 |[],[],k,_=>.inl ⟨rfl,rfl⟩
 |[],_::_,k,h=>absurd h.len (by simp)
 |_::_,[],k,h=>absurd h.len (by simp)
 |p::ae,q::ks,k,h=>by
  let⟨e,r,t⟩:=h.cons_inv;by_cases z:q.1=k
  ·exact .inr ⟨q.2,p.2,by simp[cB,List.find?_cons,z],qN (e.trans z),r⟩
  ·let e1:cB (q::ks) k=cB ks k:=by simp[cB,List.find?_cons,z]
   rw[e1,qP (λw=>z (e.symm.trans w))];exact Ent.val k t
def Ent.put{κ:Type}[DecidableEq κ]{N:Uv}{ae:List (κ×V)}{ks:List (κ×D)}{k:κ}{v:V}{d:D}(h:Ent K N H ae ks)(hv:Rp K N H v d):Ent K N H (putK ae k v) (putD ks k d):=by
 let ha:(ae.any λkv=>decide (kv.1=k))=(ks.any λkv=>decide (kv.1=k)):=by
  have:∀{α β:Type} (l:List (α×β)) (f:α→Bool),l.any (λkv=>f kv.1)=(l.map (·.1)).any f:=λl f=>by rw[List.any_map];rfl
  rw[this ae λa=>decide (a=k),this ks λa=>decide (a=k),h.1]
 unfold putK putD;rw[ha];split
 ·let go:∀{ae:List (κ×V)}{ks:List (κ×D)},Ent K N H ae ks→Ent K N H (ae.map λkv=>if kv.1=k then (kv.1,v)else kv) (ks.map λkv=>if kv.1=k then (kv.1,d)else kv):=by
   intro ae
   induction ae with
   |nil=>intro ks h;cases ks with
    |nil=>exact⟨rfl,.nil⟩
    |cons _ _=>exact absurd h.len (by simp)
   |cons p ae ih =>
    intro ks h;cases ks with
    |nil=>exact absurd h.len (by simp)
    |cons q ks =>
     let⟨e,r,t⟩:=h.cons_inv;let⟨i1,i2⟩:=ih t;rw[cj,cj];by_cases z:q.1=k
     ·rw[if_pos z,if_pos (e.trans z)];exact⟨by rw[cj,cj,i1,e],.cons hv i2⟩
     ·rw[if_neg z,if_neg (λw=>z (e.symm.trans w))];exact⟨by rw[cj,cj,i1,e],.cons r i2⟩
  exact go h
 ·exact⟨by rw[fJ,fJ,h.1];rfl,by rw[fJ,fJ];exact h.2.app (.cons hv .nil)⟩
theorem Val.dk{m:M}{ks:List (Key×D)}{v:V}{Hb:Hp}(h:Val K H₀ O Hb H m (.dk ks) v):∃a ae,v=.ref a∧Rd H a (.dK ae)∧Ent K (NM H₀ O (aI m)) H ae ks:=by
 cases m<;>simp only[Val,Cell]at h
 ·cases h with|dk r n e q=>exact⟨_,_,rfl,r,e,q⟩
 ·cases h with|dk r n e q=>exact⟨_,_,rfl,r,e,q⟩
 ·let⟨p,rfl,_,_,_,xs,q,e,r⟩:=h;exact⟨_,_,rfl,.inl q,e,r.wk λa h _=>h.1⟩
 ·let⟨p,rfl,_,_,xs,q,e,r⟩:=h;exact⟨_,_,rfl,.inl q,e,r⟩
 ·let⟨p,rfl,_,xs,q,e,r⟩:=h;exact⟨_,_,rfl,.inl q,e,r⟩
 ·cases h with|dk r n e q=>exact⟨_,_,rfl,r,e,q⟩
 ·let⟨p,qs,aG,rfl,e2,_⟩:=h;cases e2
 ·let⟨_,_,_,_,e2,_⟩:=h;cases e2
abbrev oD:D→Option (List (Key×D))
 |.dk ks=>some ks
 |_=>none
def rh{d:D}{ks:List (Key×D)}(h:oD d=some ks):d=.dk ks:=by cases d<;>simp only[oD]at h<;>cases h;rfl
def hZ(fd fk:Uq):Uq:=λe=>(fd e).bind λx=>(fk e).bind λy=>(oD x.2).bind λks=>(keyOf y.2).bind λk=>(cB ks k).bind λd=>some (aI x.1,d)
def La{td ty:TE}{fd fk:Uq}(hd:JT K td fd)(hk:JT K ty fk):JT K (DK td ty) (hZ fd fk):=by
 intro H₀ O H σ env Q m d R h q;let⟨x,ex,h⟩:=ak h;let⟨y,ey,h⟩:=ak h;let⟨ks,fV,h⟩:=ak h;let⟨k,ek,h⟩:=ak h;let⟨d',ed,h⟩:=ak h;cases h;refine hd H₀ O H σ env _ x.1 x.2 R ex λv H1 s1 h1=>?_;refine hk H₀ O H1 σ env _ y.1 y.2 (R.keep s1) ey λw H2 s2 h2=>?_;rw[rh fV]at h1;let⟨a,ae,rfl,rd,en⟩:=(h1.keep s2).dk;obtain rfl:=jt ek h2.weak;rcases en.val k with⟨z,_⟩|⟨d2,v2,z1,z2,r⟩
 ·rw[z]at ed;cases ed
 ·rw[z1]at ed;cases ed;exact⟨a,v2,rfl,.inl ⟨ae,k,rd,rfl,z2.symm⟩,q v2 H2 (s1.trans s2) (Val.el r)⟩
def cX(neg:Bool)(fk fd:Uq):Uq:=λe=>(fk e).bind λy=>(fd e).bind λx=>(oD x.2).bind λks=>(keyOf y.2).bind λk=>some (.fr,.bl (if neg then !(cB ks k).isSome else (cB ks k).isSome))
theorem Ent.isSome{κ:Type}[DecidableEq κ]{N:Uv}{ae:List (κ×V)}{ks:List (κ×D)}{k:κ}(h:Ent K N H ae ks):(cx ae k).isSome=(cB ks k).isSome:=by
 rcases h.val k with⟨a,b⟩|⟨d,v,a,b,_⟩<;>rw[a,b]<;>rfl
def NB{td ty:TE}{fd fk:Uq}(hk:JT K ty fk)(hd:JT K td fd):JT K (w5 ty td) (cX false fk fd):=by
 intro H₀ O H σ env Q m d R h q;let⟨y,ey,h⟩:=ak h;let⟨x,ex,h⟩:=ak h;let⟨ks,fV,h⟩:=ak h;let⟨k,ek,h⟩:=ak h;cases h;refine hk H₀ O H σ env _ y.1 y.2 R ey λw H1 s1 h1=>?_;refine hd H₀ O H1 σ env _ x.1 x.2 (R.keep s1) ex λv H2 s2 h2=>?_;rw[rh fV]at h2;let⟨a,ae,rfl,rd,en⟩:=h2.dk;obtain rfl:=jt ek h1.weak;refine⟨a,cx ae k,rfl,.inl ⟨ae,k,rd,rfl,rfl⟩,?_⟩;rw[en.isSome];exact q _ H2 (s1.trans s2) cP
def Ii{td ty:TE}{fd fk:Uq}(hk:JT K ty fk)(hd:JT K td fd):JT K (vN ty td) (cX true fk fd):=by
 intro H₀ O H σ env Q m d R h q;let⟨y,ey,h⟩:=ak h;let⟨x,ex,h⟩:=ak h;let⟨ks,fV,h⟩:=ak h;let⟨k,ek,h⟩:=ak h;cases h;refine hk H₀ O H σ env _ y.1 y.2 R ey λw H1 s1 h1=>?_;refine hd H₀ O H1 σ env _ x.1 x.2 (R.keep s1) ex λv H2 s2 h2=>?_;rw[rh fV]at h2;let⟨a,ae,rfl,rd,en⟩:=h2.dk;obtain rfl:=jt ek h1.weak;refine⟨a,cx ae k,rfl,.inl ⟨ae,k,rd,rfl,rfl⟩,?_⟩;rw[en.isSome];exact q _ H2 (s1.trans s2) cP
def kY(i:Nat)(e:Ev):Option (M×List (Key×D)):=match e[i]? with
 |some (some (m,.dk ds))=>if own m=true then some (m,ds)else none
 |_=>none
def BR{i:Nat}{e:Ev}{m:M}{ds:List (Key×D)}(h:kY i e=some (m,ds)):e[i]?=some (some (m,.dk ds))∧own m=true:=by
 unfold kY at h;split at h
 ·rename_i e;split at h
  ·cases h;exact⟨e,by assumption⟩
  ·cases h
 ·cases h
def Rel.dct{i:Nat}{m:M}{ds:List (Key×D)}(R:Rel K H₀ I O H σ env)(h:kY i env=some (m,ds)):∃p ae,σ[i]?=some (some (.ref p))∧O p∧H p=some (.dK ae)∧Ent K (λa=>¬O a∧H₀ a=none) H ae ds:=by
 let⟨e,o⟩:=BR h;let⟨v,hv,n,hm⟩:=R.e.at e;cases m<;>simp only[own]at o<;>try (cases o;done)
 ·let⟨p,rfl,h1,h2,xs,c,z,r⟩:=hm;exact⟨p,xs,hv,h1,c,z,r⟩
 ·let⟨p,rfl,h1,xs,c,z,r⟩:=hm;exact⟨p,xs,hv,h1,c,z,r⟩
def Rel.Ez{i:Nat}{m:M}{ds:List (Key×D)}{p:Addr}{xs ys:List (Key×V)}{es:List (Key×D)}(R:Rel K H₀ I O H σ env)(h:kY i env=some (m,ds))(hp:σ[i]?=some (some (.ref p)))(hx:H p=some (.dK xs))(r:Ent K (λa=>¬O a∧H₀ a=none) H ys es) :
  Rel K H₀ I O (L2.upd H p (.dK ys)) σ (env.set i (some (m,.dk es)))∧aH O H O (L2.upd H p (.dK ys)):=by
 let⟨e,o⟩:=BR h;let hO:=(R.kl e o hp).1;exact R.mut e o hp ⟨ys,bh,r.1,r.2.upd hO hx (λz=>z)⟩
def kH(i:Nat)(fk fe:Uq):Ul:=λe=>(fe e).bind λx=>(fk e).bind λy=>(keyOf y.2).bind λk=>if bI x.1 x.2=true then (kY i e).bind λz=>if z.2.length<sizeLine then some (.nx (e.set i (some (z.1,.dk (putD z.2 k x.2)))))else none else none
def Lb{i:Nat}{t tk:TE}{f fk:Uq}(h:JT K t f)(hk:JT K tk fk):JS K (n8 (eD i) tk t) (kH i fk f):=by
 intro H₀ I O H σ env Ds fl R e q;let⟨x,ex,e⟩:=ak e;let⟨y,ey,e⟩:=ak e;let⟨k,ek,e⟩:=ak e;split at e
 ·rename_i hs;let⟨⟨m,ds⟩,ez,e⟩:=ak e;split at e
  ·rename_i hl;cases e;let⟨p,ae,hp,hO,hx,r⟩:=R.dct ez;refine h H₀ O H σ env _ x.1 x.2 R.e ex λv H1 s1 h1=>?_;refine⟨.ref p,hp,?_⟩;refine hk H₀ O H1 σ env _ y.1 y.2 (R.keep s1).e ey λw H2 s2 h2=>?_;obtain rfl:=jt ek h2.weak;let s:=s1.trans s2;refine⟨p,_,rfl,.inl ⟨ae,k,s _ _ hx,rfl,by rw[r.len];exact hl,rfl⟩,?_⟩;let⟨R2,st⟩:=(R.keep s).Ez (ys:=putK ae k v) (es:=putD ds k x.2) ez hp (s _ _ hx) (Ent.put ⟨r.1,r.2.keep (.same s)⟩ ((h1.keep s2).bI hs));exact q O _ σ R2 ((aH.same s).trans st)
  ·cases e
 ·cases e
def wN(fk fv:Uq):Uq:=λe=>(fk e).bind λy=>(fv e).bind λx=>(keyOf y.2).bind λk=>if x.2.bD=true then some (.un,.dk [(k,x.2)])else none
def Lc{tk tv:TE}{fk fv:Uq}(hk:JT K tk fk)(hv:JT K tv fv):JT K (DL [(tk,tv)]) (wN fk fv):=by
 intro H₀ O H σ env Q m d R h q;let⟨y,ey,h⟩:=ak h;let⟨x,ex,h⟩:=ak h;let⟨k,ek,h⟩:=ak h;split at h
 ·rename_i uR;cases h;intro p hp;let s0:aB H (upd H p (.dK [])):=bZ hp;refine hk H₀ O _ σ env _ y.1 y.2 (R.keep s0) ey λw H1 s1 h1=>?_;refine hv H₀ O H1 σ env _ x.1 x.2 ((R.keep s0).keep s1) ex λv H2 s2 h2=>?_;obtain rfl:=jt ek h1.weak;let ly:H2 p=some (.dK []):=s2 _ _ (s1 _ _ bh);refine⟨ly,[(k,v)],rfl,by show 1≤15;decide,?_⟩;let sm:aB H (upd H2 p (.dK (gD [] [(k,v)]))):=λa o e=>by
   rw[aD (cu e hp)];exact s2 _ _ (s1 _ _ (s0 _ _ e))
  refine q _ _ sm ⟨p,rfl,hp,g5 R.hd hp,eh R.od hp,[(k,v)],bh,rfl,.cons ?_ .nil⟩;refine(Rp.im (N':=λ_=>False) uR h2.weak).keep (λa o e z=>?_) |>.im uR;let dD:a≠p:=by
   rintro rfl;rcases z with z|z
   ·exact z
   ·rw[ly]at e;cases e;exact z
  rw[aD dD];exact e
 ·cases h
end
section
variable {K:Uw}{H H' H₀:Hp}{I:Nat→Uz}{O:Uv}{σ:L2.St}{env:Ev}
def Rel.NC{i:Nat}{C:Addr}{qs:List Addr}{aG:List (Ut)}{H1:Hp}(R:Rel K H₀ I O H σ env)(s:aB H H1)(nn:∀(j:Nat) d,j≠i→env[j]?≠some (some (.nb,d)))(hC:H C=none)(hq:∀q∈qs,H q=none∧q≠C)(nd:qs.Nodup)
  (e:H1 C=some (.lst (qs.map V.ref))) (hp:Paired (λq ds=>∃xs,H1 q=some (.lst xs)∧ao K (λa=>¬(O a∨a=C∨a∈qs)∧H₀ a=none) H1 xs ds) qs aG) :
  Rel K H₀ I (λa=>O a∨a=C∨a∈qs) H1 (σ.set i (some (.ref C))) (env.set i (some (.nb,.lst (aG.map D.lst))))∧aH O H (λa=>O a∨a=C∨a∈qs) H1:=by
 let np:∀a,(∃o,H a=some o)→¬(a=C∨a∈qs):=λa ⟨o,ea⟩ z=>by
  rcases z with rfl|z
  ·rw[hC]at ea;cases ea
  ·rw[(hq a z).1]at ea;cases ea
 let n0:∀a,(a=C∨a∈qs)→H₀ a=none:=λa z=>by
  cases h0:H₀ a with
  |none=>rfl
  |some o=>exact absurd z (np a (R.e.hd a o h0))
 let nO:∀a,(a=C∨a∈qs)→¬O a:=λa z ho=>np a (R.e.od a ho) z;let wk:∀{N:Uv}{d:D}{v:V},Rp K N H v d→Rp K (λa=>N a∧¬(a=C∨a∈qs)) H1 v d:=λr=>(r.wk λa n e=>⟨n,np a e⟩).keep (.same s);let pH:∀{N:Uv}{d:D}{q:Addr},Cell K N H q d→Cell K (λa=>N a∧¬(a=C∨a∈qs)) H1 q d:=λ{N d q} r=>by
  let⟨o,e,_⟩:=r.some;exact(r.wk λa n e=>⟨n,np a e⟩).keep (.same s) ((s _ _ e).trans e.symm)
 let yX:∀{j:Nat}{d:D},(env.set i (some (M.nb,D.lst (aG.map D.lst))))[j]?=some (some (.nb,d))→j=i:=λ{j d} h=>by
  rcases get_set h with⟨z,_⟩|⟨z,q⟩
  ·exact z
  ·exact absurd q (nn j d z)
 let Fx:∀a,(a=C∨a∈qs)→∃o,H1 a=some o∧¬fS o:=λa z=>by
  rcases z with rfl|z
  ·exact⟨_,e,λz=>z⟩
  ·let⟨ds,xs,hx,_⟩:=vF hp z;exact⟨_,hx,λz=>z⟩
 refine⟨⟨⟨jo ?_ ?_,?_,?_,?_⟩,?_,?_,?_,?_,?_⟩,?_⟩
 ·rw[gS,gS];exact cf R.e.sl
 ·intro j y x hy hx m d ey;subst ey;rcases get_set hy with⟨rfl,z⟩|⟨nj,q⟩
  ·cases z;rcases get_set hx with⟨_,z⟩|⟨z,_⟩
   ·subst z;exact⟨rfl,_,rfl,C,qs,aG,rfl,rfl,.inr (.inl rfl),n0 C (.inl rfl),e,nd,λq hm=>⟨.inr (.inr hm),n0 q (.inr hm),(hq q hm).2⟩,hp⟩
   ·exact absurd rfl z
  ·rw[cG (λz=>nj z.symm)]at hx;let⟨v,hv,n,z⟩:=R.e.at q;rw[hx]at hv;cases hv;refine⟨n,v,rfl,?_⟩;cases m
   ·exact(wk z).wk λa h _=>λz=>z.elim h.1 h.2
   ·exact(wk z).wk λa h _=>⟨λz=>z.elim h.1.1 h.2,h.1.2⟩
   ·cases n
   ·let⟨q,rfl,h1,h2,c'⟩:=z;exact⟨q,rfl,.inl h1,h2,(pH c').wk λa h _=>⟨λz=>z.elim h.1.1 h.2,h.1.2⟩⟩
   ·let⟨q,rfl,h1,c'⟩:=z;exact⟨q,rfl,.inl h1,(pH c').wk λa h _=>⟨λz=>z.elim h.1.1 h.2,h.1.2⟩⟩
   ·cases n
   ·exact absurd q (nn j d nj)
   ·cases n
 ·intro a ha;rcases ha with ha|ha
  ·let⟨o,e⟩:=R.e.od a ha;exact⟨o,s _ _ e⟩
  ·let⟨o,eo,_⟩:=Fx a ha;exact⟨o,eo⟩
 ·exactλa o h=>let ⟨o,e⟩:=R.e.hd a o h;⟨o,s _ _ e⟩
 ·intro a u ha eu;rcases ha with ha|ha
  ·exact(R.e.keep s).on a u ha eu
  ·let⟨o,eo,nt⟩:=Fx a ha;rw[eu]at eo;cases eo;exact nt
 ·exactλa o n h=>s _ _ (R.fr a o n h)
 ·intro a ha;rcases ha with ha|ha
  ·exact R.ow a ha
  ·exact .inr (n0 a ha)
 ·intro i' d' p' h1 p1;rcases get_set h1 with⟨rfl,q⟩|⟨n1,q1⟩
  ·cases q
  ·rw[cG (λz=>n1 z.symm)]at p1;exact R.ba i' d' p' q1 p1
 ·intro i' j x y q h1 h2 o1 o2 p1 p2;rcases get_set h1 with⟨rfl,q1⟩|⟨n1,q1⟩
  ·cases q1;cases o1
  ·rcases get_set h2 with⟨rfl,q2⟩|⟨n2,q2⟩
   ·cases q2;cases o2
   ·rw[cG (λz=>n1 z.symm)]at p1;rw[cG (λz=>n2 z.symm)]at p2;exact R.dj i' j x y q q1 q2 o1 o2 p1 p2
 ·refine⟨λi' j d1 d2 h1 h2=>(yX h1).trans (yX h2).symm,λi' j d1 x p' q xs h1 p1 h2 o2 p2 ex=>?_⟩;let hi:=yX h1;subst hi;let pQ:p'=C:=by
   rcases get_set p1 with⟨_,z⟩|⟨z,_⟩
   ·cases z;rfl
   ·exact absurd rfl z
  subst pQ;rw[e]at ex;cases ex;rcases get_set h2 with⟨rfl,z⟩|⟨n2,q2⟩
  ·cases z;cases o2
  ·rw[cG (λz=>n2 z.symm)]at p2;let hO:=(R.kl q2 o2 p2).1;refine⟨λz=>nO q (.inl z) hO,λz=>?_⟩;let⟨a,ha,ea⟩:=bV.mp z;exact nO q (.inr (by cases ea;exact ha)) hO
 ·intro a o h n;exact⟨s a o h,λz=>z.elim n (np a ⟨o,h⟩)⟩
abbrev EA(i:Nat)(e:Ev):Bool:=(List.range e.length).all λj=>decide (j=i)||(match e[j]? with
 |some (some (.nb,_))=>false
 |_=>true)
def Ld{i:Nat}{e:Ev}(h:EA i e=true)(j:Nat)(d:D)(hj:j≠i):e[j]?≠some (some (.nb,d)):=λz=>by
 let hl:j<e.length:=(bQ.mp z).1;have:=fH.mp h j (mO.mpr hl);rw[z,b5 hj]at this;cases this
def DZ(i:Nat)(it:Ev→Option (M×Ut)):Ul:=λe=>(it e).bind λy=>if EA i e=true∧y.2.length<sizeLine then some (.nx (e.set i (some (.nb,.lst ((y.2.map λ_=>([]:Ut)).map D.lst)))))else none
def Le{i:Nat}{wi:TI}{ix:U0}{it:Ev→Option (M×Ut)}(hi:JI K wi it):JS K (gJ (lZ wi ix sU (sJ fA)) (ft i)) (DZ i it):=by
 intro H₀ I O H σ env Ds fl R e q;let⟨⟨mi,ds⟩,ei,e⟩:=ak e;split at e
 ·rename_i hc;let⟨hn,hl⟩:=hc;cases e;refine hi H₀ O H σ env _ mi ds R.e ei λJ H1 s1 hm ok C hC=>?_;refine⟨λk n H2=>n=ds.length-k∧k≤ds.length∧aB H1 H2∧∃qs:List Addr,H2 C=some (.lst (qs.map V.ref))∧qs.length=k∧qs.Nodup∧∀q∈qs,H1 q=none∧q≠C∧H2 q=some (.lst []),⟨_,rfl,ik _,bZ hC,[],bh,rfl,List.nodup_nil,λ_ h=>nomatch h⟩,?_⟩;rintro k n H2 ⟨rfl,hle,s2,qs,Fy,yZ,yK,pR⟩;let aR:aH O H1 O H2:=aH.same s2;by_cases aW:k<ds.length
  ·refine .inr ⟨ok.go O H2 k aR aW,λx H3 y=>?_⟩;let⟨s3,_⟩:=ok.gW O H2 k x H3 aR aW y;refine My.Qk (σ:=some x::cy σ ix) (H:=H3) (A:=λH3=>sJ fA (some x::cy σ ix) H3 _) (B:=λH3=>_) ?_;refine⟨ik _,λp hp=>?_⟩;let c3:H3 C=some (.lst (qs.map V.ref)):=s3 _ _ Fy;let pQ:C≠p:=cu c3 hp;let Rq:p∉qs:=λz=>by rw[s3 _ _ (pR p z).2.2]at hp;cases hp
   refine⟨qs.map V.ref,by rw[aD pQ];exact c3,by rw[dC,yZ];exact Nat.lt_trans aW hl,ds.length-(k+1),by omega,rfl,aW,λa o ha=>?_,qs++[p],?_,by rw[cK,yZ];rfl,?_,λa ha=>?_⟩
   ·rw[aD (cu ha hC)];let h3:=s3 _ _ (s2 _ _ ha);rw[aD (cu h3 hp)];exact h3
   ·rw[bh,fJ];rfl
   ·rw[yg];refine⟨yK,by simp,λa ha b hb=>?_⟩;have:b=p:=by simpa using hb
    subst this;exactλz=>Rq (z▸ha)
   ·rcases fG.mp ha with ha|ha
    ·let⟨z1,z2,z3⟩:=pR a ha;refine⟨z1,z2,?_⟩;let h3:=s3 _ _ z3;rw[aD z2,aD (cu h3 hp)];exact h3
    ·have:a=p:=by simpa using ha
     subst this;let Rr:H1 a=none:=by
      cases h1:H1 a with
      |none=>rfl
      |some o=>rw[s3 _ _ (s2 _ _ h1)]at hp;cases hp
     exact⟨Rr,λz=>pQ z.symm,by rw[aD (λz=>pQ z.symm),bh]⟩
  ·let hk:k=ds.length:=by omega
   subst hk;refine .inl ⟨ok.stop O H2 aR,?_⟩;let pr:∀(qs:List Addr) (ds:Ut) (N:Uv),qs.length=ds.length→(∀q∈qs,H2 q=some (.lst []))→Paired (λq (es:Ut)=>∃xs,H2 q=some (.lst xs)∧ao K N H2 xs es) qs (ds.map λ_=>([]:Ut)):=by
    intro qs
    induction qs with
    |nil=>intro ds N h _;cases ds with
     |nil=>exact .nil
     |cons _ _=>cases h
    |cons a qs ih=>intro ds N h hh;cases ds with
     |nil=>cases h
     |cons d ds=>exact .cons ⟨[],hh a bC,.nil⟩ (ih ds N (by simpa using h) λq hq=>hh q (bP _ hq))
   let⟨R',st⟩:=(R.keep s1).NC (i:=i) (C:=C) (qs:=qs) (aG:=ds.map λ_=>[]) s2 (λj d hj=>Ld hn j d hj) hC (λa ha=>⟨(pR a ha).1,(pR a ha).2.1⟩) yK Fy (pr qs ds _ yZ λa ha=>(pR a ha).2.2);exact q _ H2 _ R' ((aH.same s1).trans st)
 ·cases e
abbrev tF:Ut→Option (List (Ut))
 |[]=>some []
 |.lst d::r=>(tF r).bind λx=>some (d::x)
 |_=>none
theorem BU:∀{ds:Ut}{aG:List (Ut)},tF ds=some aG→ds=aG.map D.lst
 |[],_,h=>by cases h;rfl
 |d::r,aG,h=>by
  cases d<;>simp only[tF]at h<;>try (cases h;done)
  let⟨x,ex,h⟩:=ak h;cases h;rw[BU ex,cj]
def y0(i:Nat)(e:Ev):Option (List (Ut)):=match e[i]? with
 |some (some (.nb,.lst ds))=>tF ds
 |_=>none
def NF{i:Nat}{e:Ev}{aG:List (Ut)}(h:y0 i e=some aG):e[i]?=some (some (.nb,.lst (aG.map D.lst))):=by
 unfold y0 at h;split at h
 ·rename_i e;rw[e,BU h]
 ·cases h
theorem zS:∀{a b:List (Ut)},a.map D.lst=b.map D.lst→a=b
 |[],[],_=>rfl
 |[],_::_,h=>by cases h
 |_::_,[],h=>by cases h
 |x::a,y::b,h=>by
  rw[cj,cj]at h;let⟨h1,h2⟩:=uk h;rw[D.lst.inj h1,zS h2]
theorem AA{F:Addr→Ut→Prop}:∀{qs:List Addr}{aG:List (Ut)}{j:Nat}{ds:Ut},Paired F qs aG→aG[j]?=some ds→∃q,qs[j]?=some q∧F q ds
 |_,_,_,_,.nil,h=>by simp at h
 |_,_,0,_,.cons a t,h=>by simp at h;subst h;exact⟨_,rfl,a⟩
 |_,_,j+1,ds,.cons a t,h=>by
  let⟨q,h1,h2⟩:=AA (j:=j) (ds:=ds) t (by simpa using h);exact⟨q,by simpa using h1,h2⟩
theorem AF{F G:Addr→Ut→Prop}{es:Ut}:∀{qs:List Addr}{aG:List (Ut)}{j:Nat}{q:Addr},qs.Nodup→Paired F qs aG→qs[j]?=some q→G q es→(∀a ds,a∈qs→a≠q→F a ds→G a ds)→Paired G qs (aG.set j es)
 |_,_,_,_,_,.nil,h,_,_=>by simp at h
 |a::qs,ds::aG,0,q,hn,.cons x t,h,g,w=>by
  simp at h;subst h;rw[iR]at hn;exact .cons g (jA (λb es hb hf=>w b es (bP _ hb) (λz=>hn.1 (z▸hb)) hf) t)
 |a::qs,ds::aG,j+1,q,hn,.cons x t,h,g,w=>by
  rw[iR]at hn;let h':qs[j]?=some q:=by simpa using h
  let hq:q∈qs:=c9 h';exact .cons (w a ds bC (λz=>hn.1 (z▸hq)) x) (AF hn.2 t h' g λb es hb=>w b es (bP _ hb))
def Rel.Qr{i:Nat}{aG:List (Ut)}{p q:Addr}{qs:List Addr}{j:Nat}{xs ys:List V}{es:Ut}(R:Rel K H₀ I O H σ env)(hx:env[i]?=some (some (.nb,.lst (aG.map D.lst))))(hp:σ[i]?=some (some (.ref p)))
  (h1:O p) (h2:H₀ p=none) (h3:H p=some (.lst (qs.map V.ref))) (h4:qs.Nodup) (h5:∀q∈qs,O q∧H₀ q=none∧q≠p) (h6:Paired (λq ds=>∃xs,H q=some (.lst xs)∧ao K (λa=>¬O a∧H₀ a=none) H xs ds) qs aG)
  (hq:qs[j]?=some q) (eq:H q=some (.lst xs)) (r:ao K (λa=>¬O a∧H₀ a=none) H ys es) :
  Rel K H₀ I O (upd H q (.lst ys)) σ (env.set i (some (.nb,.lst ((aG.set j es).map D.lst))))∧aH O H O (upd H q (.lst ys)):=by
 let Fz:q∈qs:=c9 hq;let⟨qO,q0,qp⟩:=h5 q Fz;let kp:∀{N:Uv},(∀a,N a→¬O a)→Keeps N H (upd H q (.lst ys)):=λw a u h z=>by
  let dD:a≠q:=by
   rintro rfl;rcases z with z|z
   ·exact w _ z qO
   ·rw[eq]at h;cases h;exact z
  rw[aD dD];exact h
 let hi:i<env.length:=(bQ.mp hx).1;let EB:∀{k:Nat}{x:M×D}{p':Addr},env[k]?=some (some x)→own x.1=true→σ[k]?=some (some (.ref p'))→p'≠q:=λ{k x p'} a b c z=>by
  let⟨_,z2⟩:=R.nd.2 i k _ x p p' _ hx hp a b c h3;exact z2 (bV.mpr ⟨q,Fz,by rw[z]⟩)
 let y1:∀{k:Nat}{d1:D},(env.set i (some (M.nb,D.lst ((aG.set j es).map D.lst))))[k]?=some (some (.nb,d1))→k=i:=λ{k d1} h=>by
  rcases get_set h with⟨z,_⟩|⟨_,z⟩
  ·exact z
  ·exact R.nd.1 k i d1 _ z hx
 refine⟨⟨⟨jo ?_ ?_,?_,?_,?_⟩,?_,R.ow,?_,?_,?_⟩,?_⟩
 ·rw[gS];exact cf R.e.sl
 ·intro k y x hy pS m d ey;subst ey;rcases get_set hy with⟨rfl,z⟩|⟨nk,z⟩
  ·cases z;rw[hp]at pS;cases pS;refine⟨rfl,_,rfl,p,qs,aG.set j es,rfl,rfl,h1,h2,by rw[aD (λz=>qp z.symm)];exact h3,h4,h5,AF h4 h6 hq ⟨ys,bh,r.keep (kp λa h=>h.1)⟩ λa ds ha dD ⟨zs,e1,e2⟩=>⟨zs,by rw[aD dD];exact e1,e2.keep (kp λa h=>h.1)⟩⟩
  ·let⟨v,hv,n,hm⟩:=R.e.at z;rw[pS]at hv;cases hv;refine⟨n,v,rfl,?_⟩;cases m
   ·exact Rp.keep (kp λa h=>h) hm
   ·exact Rp.keep (kp λa h=>h.1) hm
   ·cases n
   ·let⟨p',rfl,h1,h2,c'⟩:=hm;exact⟨p',rfl,h1,h2,c'.keep (kp λa h=>h.1) (aD (EB z rfl pS))⟩
   ·let⟨p',rfl,h1,c'⟩:=hm;exact⟨p',rfl,h1,c'.keep (kp λa h=>h.1) (aD (EB z rfl pS))⟩
   ·cases n
   ·exact absurd (R.nd.1 k i d _ z hx) nk
   ·cases n
 ·intro a ha;by_cases z:a=q
  ·subst z;exact⟨_,bh⟩
  ·rw[aD z];exact R.e.od a ha
 ·intro a u h;by_cases z:a=q
  ·subst z;exact⟨_,bh⟩
  ·rw[aD z];exact R.e.hd a u h
 ·intro a u ha e;by_cases z:a=q
  ·subst z;rw[bh]at e;cases e;exactλz=>z
  ·rw[aD z]at e;exact R.e.on a u ha e
 ·intro a u n h;let z:a≠q:=by rintro rfl;rw[q0]at h;cases h
  rw[aD z];exact R.fr a u n h
 ·intro i' e' p' g1 p1;rcases get_set g1 with⟨rfl,z⟩|⟨n1,q1⟩
  ·cases z
  ·exact R.ba i' e' p' q1 p1
 ·intro i' k x y a g1 g2 o1 o2 p1 p2;rcases get_set g1 with⟨rfl,z⟩|⟨_,q1⟩
  ·cases z;cases o1
  ·rcases get_set g2 with⟨rfl,z⟩|⟨_,q2⟩
   ·cases z;cases o2
   ·exact R.dj i' k x y a q1 q2 o1 o2 p1 p2
 ·refine⟨λi' k d1 d2 g1 g2=>(y1 g1).trans (y1 g2).symm,λi' k d1 x p' a zs g1 p1 g2 o2 p2 e=>?_⟩;let z:=y1 g1;subst z;rw[hp]at p1;cases p1;rw[aD (λz=>qp z.symm)]at e;rcases get_set g2 with⟨rfl,z⟩|⟨_,q2⟩
  ·cases z;cases o2
  ·exact R.nd.2 i' k _ x p a zs hx hp q2 o2 p2 e
 ·intro a u h n;let z:a≠q:=by rintro rfl;exact n qO
  exact⟨by rw[aD z];exact h,n⟩
def D0(i:Nat)(fk f:Uq):Ul:=λe=>(fk e).bind λy=>(iO y).bind λk=>(f e).bind λx=>if bI x.1 x.2=true then (y0 i e).bind λaG=>(cM aG.length k).bind λj=>(aG[j]?).bind λds=>if ds.length<sizeLine then some (.nx (e.set i (some (.nb,.lst ((aG.set j (ds++[x.2])).map D.lst)))))else none else none
def Lf{i:Nat}{t tk:TE}{f fk:Uq}(hk:JT K tk fk)(h:JT K t f):JS K (km (jX K "list" nJ (iW (lu K) (eD i) tk) (fu t fA))) (D0 i fk f):=by
 intro H₀ I O H σ env Ds fl R e q;let⟨y,ey,e⟩:=ak e;let⟨k,ek,e⟩:=ak e;let⟨x,ex,e⟩:=ak e;split at e
 ·rename_i hs;let⟨aG,ed,e⟩:=ak e;let⟨j,ej,e⟩:=ak e;let⟨ds,Ru,e⟩:=ak e;split at e
  ·rename_i hl;cases e;let hx:=NF ed;let⟨v,hv,_,p,qs,Tx,rfl,e2,h1,h2,h3,h4,h5,h6⟩:=R.e.at hx;cases zS (D.lst.inj e2);let⟨a,ha,xs,y2,rr⟩:=AA h6 Ru;refine⟨.ref p,hv,?_⟩;refine hk H₀ O H σ env _ y.1 y.2 R.e ey λw H1 s1 hw=>?_;rw[ra ek]at hw;let hlen:qs.length=aG.length:=cf h6;refine .inl ⟨p,_,k,.ref a,rfl,hw.int,.inl (.inl (s1 _ _ h3)),?_,?_⟩
   ·unfold L2.aT;rw[dC,hlen,ej];show(qs.map V.ref)[j]?=_;rw[dN,ha];rfl
   refine⟨.inl ⟨rfl,xs,.inl (.inl (s1 _ _ y2))⟩,?_⟩;refine h H₀ O H1 σ env _ x.1 x.2 (R.e.keep s1) ex λu H2 s2 hu=>?_;let s:=s1.trans s2;refine⟨a,xs,u,rfl,rfl,s _ _ y2,by rw[rr.len];exact hl,?_⟩;let R2:=R.keep s;let⟨R3,st⟩:=R2.Qr (ys:=xs++[u]) (es:=ds++[x.2]) hx hv h1 h2 (s _ _ h3) h4 h5 (jA (λq ds _ ⟨zs,e1,e2⟩=>⟨zs,s _ _ e1,e2.keep (.same s)⟩) h6) ha (s _ _ y2) ((rr.keep (.same s)).app (.cons (hu.bI hs) .nil));exact q O _ σ R3 ((aH.same s).trans st)
  ·cases e
 ·cases e
end
section
variable {K:Uw}
abbrev g9:Ul:=λ_=>none
def JB:JS K (λ_ _ _=>False) g9:=by
 intro H₀ I O H σ env Ds fl R h q;cases h
end
section
variable {K:Uw}{H H' H₀:Hp}{O:Uv}{σ:L2.St}{env:Ev}
def Val.NK{m:M}{ks:List (Key×D)}{v:V}{Hb:Hp}(h:Val K H₀ O Hb H m (.dk ks) v):∃a,v=.ref a∧uE H a:=by
 let⟨a,ae,rfl,rd,_⟩:=h.dk;exact⟨a,rfl,.inl ⟨ae,rd⟩⟩
def rC(fd fk fx:Uq):Uq:=λe=>(fd e).bind λx=>(fk e).bind λy=>(fx e).bind λz=>(oD x.2).bind λks=>(keyOf y.2).bind λk=>match cB ks k with
 |some d=>some (aI x.1,d)
 |none=>if z.2.bD=true then some (.fr,z.2)else none
def JC{td ty tx:TE}{fd fk fx:Uq}(hd:JT K td fd)(hk:JT K ty fk)(hx:JT K tx fx):JT K (CF td ty tx) (rC fd fk fx):=by
 intro H₀ O H σ env Q m d R h q;let⟨x,ex,h⟩:=ak h;let⟨y,ey,h⟩:=ak h;let⟨z,ez,h⟩:=ak h;let⟨ks,fV,h⟩:=ak h;let⟨k,ek,h⟩:=ak h;refine hd H₀ O H σ env _ x.1 x.2 R ex λv H1 s1 h1=>?_;rw[rh fV]at h1;let⟨a,rfl,Rv⟩:=h1.NK;refine⟨a,rfl,Rv,hk H₀ O H1 σ env _ y.1 y.2 (R.keep s1) ey λw H2 s2 h2=>?_⟩;refine hx H₀ O H2 σ env _ z.1 z.2 ((R.keep s1).keep s2) ez λu H3 s3 h3=>?_;let⟨a',ae,e',rd,en⟩:=((h1.keep s2).keep s3).dk;cases e';obtain rfl:=jt ek h2.weak;let s:=(s1.trans s2).trans s3;refine⟨cx ae k,.inl ⟨ae,k,rd,rfl,rfl⟩,?_⟩;rcases en.val k with⟨z1,z2⟩|⟨d2,v2,z1,z2,r⟩
 ·rw[z1]at h;simp only at h;split at h
  ·rename_i hi;cases h;rw[z2];exact q u H3 s (show Rp K _ H3 u z.2 from h3.weak.im hi)
  ·cases h
 ·rw[z1]at h;cases h;rw[z2];exact q v2 H3 s (Val.el r)
end
end J
namespace J
open PySem PySem.Spec PyProof.Rows L2
section
variable {X:Cx}{pins:Ux}{σ:L2.St}{H:Hp}{s:Shared}{a d it:Addr}
end
abbrev xu:Key→D
 |.inl i=>.int i
 |.inr x=>.str x
 |.non=>.non
section
variable {K:Uw}{N:Uv}{H H' H₀ H₁:Hp}{I:Nat→Uz}{O:Uv}{σ:L2.St}{env:Ev}
theorem Ent.at{ae:List (Key×V)}{ks:List (Key×D)}{i:Nat}{kv:Key×V}(h:Ent K N H ae ks)(e:ae[i]?=some kv):∃d,ks[i]?=some (kv.1,d)∧Rp K N H kv.2 d:=by
 induction ae generalizing ks i with
 |nil=>simp at e
 |cons p ae ih =>
  cases ks with
  |nil=>exact absurd h.len (by simp)
  |cons q ks =>
   let⟨e1,r,t⟩:=h.cons_inv;cases i with
   |zero=>simp only[List.getElem?_cons_zero,Option.some.injEq]at e;subst e;exact⟨q.2,by rw[List.getElem?_cons_zero,e1],r⟩
   |succ i=>let⟨d,h1,h2⟩:=ih t (by simpa using e);exact⟨d,by simpa using h1,h2⟩
end
end J
namespace J
open PySem
end J
namespace J
open PySem PySem.Spec PyProof.Rows L2
section
variable {X:Cx}{pins:Ux}{σ:L2.St}{H:Hp}{s:Shared}{N N':Uv}{A:Around}{a b:Addr}{ae dh:List (Key×V)}{ks ls:List (Key×D)}
end
section
variable {X:Cx}{K:Uw}
end
section
variable {K:Uw}{H:Hp}
end
structure tG (K:Uw)(x:Str)(st:Stmt)(f:Addr)(fd:FuncData):Prop where
 ex:∃(oc:Value) (od:Uz) (dV kV doc pm:Value) (an:Uz) (aX ct:Value) (gY:Array (Option Value)),
  fd=PySem.W.fnOf x x (dn st) (cH st) (bB st) dV kV doc pm an aX ct∧K.lookup f=some ⟨oc,od,.func fd,gY⟩∧PySem.W.codeIn K aX x=true
 kp:PySem.W.keepIn K (.ref f)=true
def tG.ok{P:Program}{w:World}{K:Uw}{mg:Str→Option Value}{base:Heap}{x:Str}{st:Stmt}{f:Addr}{fd:FuncData}{N ps:U3}{k:Nat}{sp:Sp}(F:tG K x st f fd)(S:nI N ps (bB st))(len:∀vs H Q E,sp vs H Q E→vs.length=ps.length)
  (n5:∀(aX:Value) (A:Around) (outer:List Env) (s:Shared) (H:Hp) (vs:List V) (Q:VK) (E:XK),cw k (A.deeper (envOfC x (bB st) s.heap.objs.size f aX))→sp vs H Q E →
   ∃t,dR (jM iZ P w K mg base N x (bB st) f aX A outer s H E).ll (cH st) t∧t { nx:=λ_ H'=>Q .non H',rt:=Q } (L2.start N vs) H):iN P w K mg base iZ (k+1) f fd ps sp:=by
 let⟨oc,od,dV,kV,doc,pm,an,aX,ct,gY,rfl,lk,fK⟩:=F.ex;refine DF lk fK S len λA outer s H vs Q E hr iu=>?_;let⟨t,h,q⟩:=n5 aX A outer s H vs Q E hr iu;exact⟨t,h.ll,q⟩
structure TX (K:Uw)(mg:Str→Option Value)(x:Str)(st:Stmt)(ps:U3)(dv:Value)(f:Addr)(fd:FuncData):Prop where
 mg:mg x=some (.ref f)
 fn:tG K x st f fd
 bd:Binds K fd ps []
 y3:Binds K fd ps [dv]
end J
namespace J
open PySem PySem.Spec PyProof.Rows L2
open Builtin Builtin.Str
section
variable {K:Uw}{H:Hp}
end
end J
namespace J
open PySem PySem.Spec PyProof.Rows L2
section
variable {prog:Program}{w:World}{A:Around}{E:Uu}{s:Shared}{d:Addr}
def find_none{o:Obj}{es:Array DictEntry}{ep:Nat}{h:Int}{Q:Option Nat→Shared→Prop}(hu:A.units<cLine)(ho:s.heap.get? d=some o)(hd:o.data=.dict es ep)
  (hk:∀e∈es,∃ks b,e.key=.ref b∧(tupleKind (bJ prog w)).is s.heap ks b) (hq:Q none s):wpAny (model prog w) A (dictFind d .none h) Q E s:=by
 unfold dictFind
 try with_reducible refine k0 ?_
 refine ax (ub ho hd ?_);dsimp only;let mZ:∀v∈(placesWithHash es.size (λi=>es[i]?.map (·.hash)) h).filterMap (λi=>es[i]?.map (·.key)),∃ks b,v=.ref b∧(tupleKind (bJ prog w)).is s.heap ks b:=by
  intro v hv;let⟨i,_,hi⟩:=xW.mp hv;cases iA:es[i]? with
  |none=>rw[iA]at hi;cases hi
  |some e =>
   rw[iA]at hi;obtain rfl:e.key=v:=by simpa using hi
   exact hk e (Array.mem_of_getElem? iA)
 cases hs:(placesWithHash es.size (λi=>es[i]?.map (·.hash)) h).filterMap (λi=>es[i]?.map (·.key)) with
 |nil =>
  rw[if_pos (by rfl)];let hp:placesWithHash es.size (λi=>es[i]?.map (·.hash)) h=[]:=by
   cases hp:placesWithHash es.size (λi=>es[i]?.map (·.hash)) h with
   |nil=>rfl
   |cons i r =>
    let hi:i∈placesWithHash es.size (λi=>es[i]?.map (·.hash)) h:=by rw[hp];exact bC
    let aW:i<es.size:=by
     unfold placesWithHash at hi;exact mO.mp (oI.mp hi).1
    rw[hp,tS]at hs;simp[aW]at hs
  rw[hp];unfold dictWalkPlain;refine ax ?_;exact aS (aS hq)
 |cons v r =>
  let⟨ks,b,rfl,hb⟩:=mZ v (by rw[hs];exact bC);rw[if_neg (by simp[carriedByValue])];rw[if_neg (by simp)];refine ax ?_;let Qs:∀x∈(Value.ref b::r),∃ks b,x=.ref b∧(tupleKind (bJ prog w)).is s.heap ks b:=by rw[←hs];exact mZ
  let mt:∀{Q':Bool→Shared→Prop},Q' false s→wpAny (model prog w) A (tableMayTell .none (Value.ref b::r)) Q' E s:=λ{Q'} Rx=>by
   unfold tableMayTell;rw[if_neg (by simp)];refine ax (show wpAny _ _ (pure true) _ _ s from aS ?_);simp only[Bool.not_true,Bool.false_eq_true,if_false];refine ax ?_;refine wpAny_forIn_list _ (λrest r s'=>s'=s∧r=(none,())∧∀v∈rest,∃ks b,v=.ref b∧(tupleKind (bJ prog w)).is s.heap ks b) _ ?_ ?_ _ _ ⟨rfl,rfl,Qs⟩
   ·rintro x rest r s' ⟨rfl,rfl,hr⟩;let⟨k',b,rfl,hb⟩:=hr x bC;refine ax ((tupleKind (bJ prog w)).quiet hb ?_);simp only[Bool.not_true,Bool.false_eq_true,if_false];exact aS ⟨rfl,rfl,λv hv=>hr v (bP _ hv)⟩
   ·rintro r s' ⟨rfl,rfl,_⟩;exact aS Rx
  refine mt ?_;rw[if_neg (by simp)];refine ax ?_;refine wpAny_forIn_list _ (λrest r s'=>s'=s∧r=(none,none)) _ ?_ ?_ _ _ ⟨rfl,rfl⟩
  ·rintro i rest r s' ⟨rfl,rfl⟩;cases iA:es[i]? with
   |none=>exact aS ⟨rfl,rfl⟩
   |some e =>
    let⟨ks,b,ek,hb⟩:=hk e (Array.mem_of_getElem? iA);dsimp only;by_cases hh:(e.hash==h)=true
    ·rw[if_pos hh,ek];let⟨ob,its,n,g1,g2,g3,_⟩:=hb;refine ax (oP ho hd (ax (SeqAt.EqAt.tuple_none (items:=its) ⟨ob,g1,g2,n,g3⟩ hu _ _ _ _ (ax (oP ho hd ?_)))));show wpAny _ _ (if (ep != ep)=true then _ else _) _ E _;rw[if_neg (by simp)];simp only[Bool.false_eq_true,if_false];refine ax (wpAny_rule ?_);simp only[Bool.false_and,Bool.false_eq_true,if_false];exact aS ⟨rfl,rfl⟩
    ·rw[if_neg hh];exact aS ⟨rfl,rfl⟩
  ·rintro r s' ⟨rfl,rfl⟩;exact aS hq
def get_none{xs:List (List Key×Addr×Value)}{r:Value}{Q:Uu}(hu:A.units+1<cLine)(hs:(d==sysModules)=false)(dd:s.heap.DictOfH (tupleKind (bJ prog w)) d xs)(hq:Q r { s with toks:=s.toks+1 }):wpAny (model prog w) A (call (.builtin "dict.get") [.ref d,.none,r]) Q E s:=by
 refine t9 oO dd.typeIs x9 (ya _ _ _) (S:=λA R s=>A.in1.units<cLine∧s.heap.DictOfH (tupleKind (bJ prog w)) d xs∧R (.ok (.ret r)) { s with toks:=s.toks+1 }) (.of_wp λA R s ⟨hu,hm,h⟩=>?_) ⟨hu,dd,hq⟩;let⟨o,es,ep,ho,_,hd,he,Ry,hn⟩:=hm;show wpAny _ _ (dictGet d .none >>= _) _ _ s;refine ax ?_;unfold dictGet
 try with_reducible refine k0 ?_
 refine ax (Ap (ax (find_none (s:={ s with toks:=s.toks+1 }) hu ho hd (λe m=>?_) ?_)))
 ·have:e∈xs.map (entryOfKey (tupleKind (bJ prog w))):=he▸Array.mem_toList_iff.mpr m;let⟨x,hx,rfl⟩:=bV.mp this;exact⟨x.1,x.2.1,rfl,Ry x hx⟩
 ·refine aS ?_;show wpAny _ _ (Builtin.Dict.missed d .none >>= _) _ _ _;exact ax (wpAny_missed_other hs (aS ⟨r,rfl,h⟩))
end
section
variable {prog:Program}{w:World}{A:Around}{E:Uu}{s:Shared}
inductive rW {κ:Type}[DecidableEq κ](A:Around)(s:Shared)(kb:List (κ×Addr×Value)):List (κ×Addr×Value)→Bool→Prop
 |nil:rW A s kb [] true
 |miss {k:κ}{p:Addr×Value}{r:List (κ×Addr×Value)}:atKey kb k=none→rW A s kb ((k,p)::r) false
 |hit {k:κ}{p q:Addr×Value}{r:List (κ×Addr×Value)}{e b:Bool}:atKey kb k=some q→SeqAt.EqAt A s p.2 q.2 e→rW A s kb r b→rW A s kb ((k,p)::r) (e&&b)
end
def Raw(h:Heap)(d:Addr)(es:Array DictEntry)(ep:Nat):Prop:=∃o,h.get? d=some o∧o.ExactDict∧o.data=.dict es ep
def Raw.ty{s:Shared}{d:Addr}{es:Array DictEntry}{ep:Nat}(h:Raw s.heap d es ep):s.TypeIs (.ref d) "dict" := let ⟨o,a,b,_⟩:=h;⟨o,a,b.1⟩
section
variable {prog:Program}{w:World}{A:Around}{E:Uu}{s:Shared}{d it:Addr}{es:Array DictEntry}{ep i n:Nat}
end
abbrev Qt:HO→Bool
 |.dK _=>true
 |.dT _=>true
 |_=>false
abbrev Qu:HO→List V
 |.dK ae=>ae.map (·.2)
 |.dT ae=>ae.map (·.2)
 |_=>[]
section
variable {X:Cx}{pins:Ux}{σ:L2.St}{H:Hp}{s:Shared}{a it:Addr}
end
end J
namespace J
open PySem L2
section
variable {K:Uw}{N:Uv}{H H' H₀ H₁:Hp}{I:Nat→Uz}{O:Uv}{σ:L2.St}{env:Ev}
abbrev Rz:D→Option (Ut)
 |.dk ks=>some (ks.map (·.2))
 |.dt ks=>some (ks.map (·.2))
 |_=>none
abbrev DR(K:Uw)(N:Uv)(H:Hp):HO→D→Prop
 |.dK ae,.dk ks=>Ent K N H ae ks
 |.dT ae,.dt ks=>Ent K N H ae ks
 |_,_=>False
def DR.dc{u:HO}{d:D}(h:DR K N H u d):Qt u=true:=by cases u<;>cases d<;>first|rfl|exact h.elim
def DR.vs{u:HO}{d:D}{ds:Ut}(h:DR K N H u d)(e:Rz d=some ds):ao K N H (Qu u) ds:=by
 cases u<;>cases d<;>first|exact h.elim|skip
 ·cases e;exact h.2
 ·cases e;exact h.2
def DR.mono{N':Uv}{u:HO}{d:D}(h:DR K N H u d)(w:∀{vs:List V}{ds:Ut},ao K N H vs ds→ao K N' H' vs ds):DR K N' H' u d:=by
 cases u<;>cases d<;>first|exact h.elim|exact⟨h.1,w h.2⟩
end
end J
namespace J
open PySem PySem.Spec PyProof.Rows L2
def keysOf:Ut→Option (List Key)
 |[]=>some []
 |d::ds=>(keyOf d).bind λk=>(keysOf ds).map λks=>k::ks
def mF:D→Option (List Key)
 |.tup ds=>if ds.length<4 then keysOf ds else none
 |_=>none
abbrev tH:D→Option (List (List Key×D))
 |.dt ks=>some ks
 |_=>none
def vU{d:D}{ks:List (List Key×D)}(h:tH d=some ks):d=.dt ks:=by cases d<;>simp only[tH]at h<;>cases h;rfl
section
variable {K:Uw}{N:Uv}{H H' H₀:Hp}{I:Nat→Uz}{O:Uv}{σ:L2.St}{env:Ev}
theorem Ad:∀{ds:Ut}{ks:List Key}{vs:List V},keysOf ds=some ks→ao K N H vs ds→vs=ks.map kV
 |[],_,_,e,.nil=>by cases e;rfl
 |d::ds,_,_,e,.cons h r=>by
  let⟨k,e1,e⟩:=ak e;cases e2:keysOf ds with
  |none=>rw[e2]at e;cases e
  |some l=>rw[e2]at e;cases e;rw[Ad e2 r,jt e1 h];rfl
set_option tactic.hygienic true in
def qS{d:D}{ks:List Key}{v:V}(e:mF d=some ks)(h:Rp K N H v d):∃b,v=.ref b∧H b=some (.tup (ks.map kV)):=by
 cases d<;>try (cases e;done)
 rename_i ds;simp only[mF]at e;split at e
 ·rename_i hl;cases h with
  |tup q r =>
   have:=r.len;let z:=q.own (by omega);rw[Ad e r]at z;exact⟨_,rfl,z⟩
 ·cases e
theorem Val.dt{m:M}{ks:List (List Key×D)}{v:V}{Hb:Hp}(h:Val K H₀ O Hb H m (.dt ks) v):∃a ae,v=.ref a∧Rd H a (.dT ae)∧Ent K (NM H₀ O (aI m)) H ae ks:=by
 cases m<;>simp only[Val,Cell]at h
 ·cases h with|dt r n e q=>exact⟨_,_,rfl,r,e,q⟩
 ·cases h with|dt r n e q=>exact⟨_,_,rfl,r,e,q⟩
 ·let⟨p,rfl,_,_,_,xs,q,e,r⟩:=h;exact⟨_,_,rfl,.inl q,e,r.wk λa h _=>h.1⟩
 ·let⟨p,rfl,_,_,xs,q,e,r⟩:=h;exact⟨_,_,rfl,.inl q,e,r⟩
 ·let⟨p,rfl,_,xs,q,e,r⟩:=h;exact⟨_,_,rfl,.inl q,e,r⟩
 ·cases h with|dt r n e q=>exact⟨_,_,rfl,r,e,q⟩
 ·let⟨p,qs,aG,rfl,e2,_⟩:=h;cases e2
 ·let⟨_,_,_,_,e2,_⟩:=h;cases e2
abbrev rX:Uq:=λ_=>some (.un,.dt [])
def Lg:JT K Cz rX:=by
 intro H₀ O H σ env Q m d R h q;cases h;intro p hp;exact q _ _ (bZ hp) ⟨p,rfl,hp,g5 R.hd hp,eh R.od hp,[],bh,rfl,.nil⟩
def Qv(H:Hp)(a:Addr)(y:V)(r:Option V):Prop:=eE H a y r∨∃ae,Rd H a (.dT ae)∧y=.non∧r=none
abbrev C5(td ty tx:TE):TE:=λσ H Q=>td σ H λx H1=>∃a,x=.ref a∧uE H1 a∧ty σ H1 λy H2=>tx σ H2 λz H3=>∃o,Qv H3 a y o∧Q (o.getD z) H3
def JD {X:Cx}{td ty tx:TE}{o e f:Expr}{apos bN:Pos} (hu:X.A.units+1<cLine) (ho:PE X o td) (he:PE X e ty) (hf:PE X f tx) (m:M2 X o "get" apos e f bN):PE X (.Call (.Attribute o "get" apos) [e,f] [] bN) (C5 td ty tx):=by
 intro pins s σ H Q I h;refine wpAny_Call_method m.base m.few m.line yb oO PySem.F.type_dict_get (ay (ho pins s σ H _ I h) λu s1 ⟨x,H1,I1,rx,a,ex,d,q1⟩=>?_);subst ex;obtain rfl:u=Value.ref a:=rx;let⟨t1,t2,_⟩:=CB I1 d;refine⟨t1,t2,?_⟩;rw[m.trees];refine t4 rfl (Calls.evalArgs_plain (oJ (ay (he pins s1 σ H1 _ I1 q1) λiv s2 ⟨y,H2,I2,ry,q2⟩ =>
  oJ (ay (hf pins s2 σ H2 _ I2 q2) λfv s3 ⟨z,H3,I3,rz,ov,g,q3⟩=>Calls.spliced_nil ?_))))
 rcases g with g|⟨ae,rd,ey,er⟩
 ·exact CD hu I3 g ry rz λw' s4 I4 fO=>⟨_,H3,I4,fO,q3⟩
 ·subst ey er;cases (show iv=Value.none from ry);let⟨_,lo,xs,_,dd⟩:=jF I3.aA rd;exact get_none hu lo dd ⟨_,H3,I3.tok _,rz,q3⟩
def jD(fd fk fx:Uq):Uq:=λe=>(fd e).bind λx=>(fk e).bind λy=>(fx e).bind λz=>(tH x.2).bind λks=>match y.2 with
 |.non=>if z.2.bD=true then some (.fr,z.2)else none
 |d=>(mF d).bind λk=>match cB ks k with
  |some d=>some (aI x.1,d)
  |none=>if z.2.bD=true then some (.fr,z.2)else if z.1=.un then some (.un,z.2)else none
def JF{td ty tx:TE}{fd fk fx:Uq}(hd:JT K td fd)(hk:JT K ty fk)(hx:JT K tx fx):JT K (C5 td ty tx) (jD fd fk fx):=by
 intro H₀ O H σ env Q m d R h q;let⟨x,ex,h⟩:=ak h;let⟨y,ey,h⟩:=ak h;let⟨z,ez,h⟩:=ak h;let⟨ks,fV,h⟩:=ak h;refine hd H₀ O H σ env _ x.1 x.2 R ex λv H1 s1 h1=>?_;rw[vU fV]at h1;let⟨a,Qw,rfl,RA,_⟩:=h1.dt;refine⟨a,rfl,.inr ⟨Qw,RA⟩,hk H₀ O H1 σ env _ y.1 y.2 (R.keep s1) ey λw H2 s2 h2=>?_⟩;refine hx H₀ O H2 σ env _ z.1 z.2 ((R.keep s1).keep s2) ez λu H3 s3 h3=>?_;let⟨a',ae,e',rd,en⟩:=((h1.keep s2).keep s3).dt;cases e';let s:=(s1.trans s2).trans s3;let dflt:(if z.2.bD=true then some (M.fr,z.2)else none)=some (m,d)→Q u H3:=λh=>by
  split at h
  ·rename_i hi;cases h;exact q u H3 s (show Rp K _ H3 u z.2 from h3.weak.im hi)
  ·cases h
 let Pr:(if z.2.bD=true then some (M.fr,z.2)else if z.1=.un then some (.un,z.2)else none)=some (m,d)→Q u H3:=λh=>by
  split at h
  ·rename_i hi;cases h;exact q u H3 s (show Rp K _ H3 u z.2 from h3.weak.im hi)
  ·split at h
   ·rename_i hu;cases h;rw[hu]at h3;exact q u H3 s (h3.hb λa z=>(s1.trans s2).free z)
   ·cases h
 split at h
 ·rename_i hy;rw[hy]at h2;exact⟨none,.inr ⟨ae,rd,h2.non,rfl⟩,dflt h⟩
 ·let⟨k,ek,h⟩:=ak h;let⟨b,rfl,hb⟩:=qS ek h2.weak;refine⟨cx ae k,.inl (.inr ⟨ae,k,b,rd,rfl,s3 _ _ hb,rfl⟩),?_⟩;rcases en.val k with⟨z1,z2⟩|⟨d2,v2,z1,z2,r⟩
  ·rw[z1]at h;rw[z2];exact Pr h
  ·rw[z1]at h;cases h;rw[z2];exact q v2 H3 s (Val.el r)
def mG(i:Nat)(e:Ev):Option (M×List (List Key×D)):=match e[i]? with
 |some (some (m,.dt ds))=>if own m=true then some (m,ds)else none
 |_=>none
def BV{i:Nat}{e:Ev}{m:M}{ds:List (List Key×D)}(h:mG i e=some (m,ds)):e[i]?=some (some (m,.dt ds))∧own m=true:=by
 unfold mG at h;split at h
 ·rename_i e;split at h
  ·cases h;exact⟨e,by assumption⟩
  ·cases h
 ·cases h
def Rel.Qx{i:Nat}{m:M}{ds:List (List Key×D)}(R:Rel K H₀ I O H σ env)(h:mG i env=some (m,ds)):∃p ae,σ[i]?=some (some (.ref p))∧O p∧H p=some (.dT ae)∧Ent K (λa=>¬O a∧H₀ a=none) H ae ds:=by
 let⟨e,o⟩:=BV h;let⟨v,hv,n,hm⟩:=R.e.at e;cases m<;>simp only[own]at o<;>try (cases o;done)
 ·let⟨p,rfl,h1,h2,xs,c,z,r⟩:=hm;exact⟨p,xs,hv,h1,c,z,r⟩
 ·let⟨p,rfl,h1,xs,c,z,r⟩:=hm;exact⟨p,xs,hv,h1,c,z,r⟩
def Rel.Qy{i:Nat}{m:M}{ds:List (List Key×D)}{p:Addr}{xs ys:List (List Key×V)}{es:List (List Key×D)}(R:Rel K H₀ I O H σ env)(h:mG i env=some (m,ds))(hp:σ[i]?=some (some (.ref p)))(hx:H p=some (.dT xs))(r:Ent K (λa=>¬O a∧H₀ a=none) H ys es) :
  Rel K H₀ I O (L2.upd H p (.dT ys)) σ (env.set i (some (m,.dt es)))∧aH O H O (L2.upd H p (.dT ys)):=by
 let⟨e,o⟩:=BV h;let hO:=(R.kl e o hp).1;exact R.mut e o hp ⟨ys,bh,r.1,r.2.upd hO hx (λz=>z)⟩
def rY(i:Nat)(fk fe:Uq):Ul:=λe=>(fe e).bind λx=>(fk e).bind λy=>(mF y.2).bind λk=>if bI x.1 x.2=true then (mG i e).bind λz=>if z.2.length<sizeLine then some (.nx (e.set i (some (z.1,.dt (putD z.2 k x.2)))))else none else none
def Lh{i:Nat}{t tk:TE}{f fk:Uq}(h:JT K t f)(hk:JT K tk fk):JS K (n8 (eD i) tk t) (rY i fk f):=by
 intro H₀ I O H σ env Ds fl R e q;let⟨x,ex,e⟩:=ak e;let⟨y,ey,e⟩:=ak e;let⟨k,ek,e⟩:=ak e;split at e
 ·rename_i hs;let⟨⟨m,ds⟩,ez,e⟩:=ak e;split at e
  ·rename_i hl;cases e;let⟨p,ae,hp,hO,hx,r⟩:=R.Qx ez;refine h H₀ O H σ env _ x.1 x.2 R.e ex λv H1 s1 h1=>?_;refine⟨.ref p,hp,?_⟩;refine hk H₀ O H1 σ env _ y.1 y.2 (R.keep s1).e ey λw H2 s2 h2=>?_;let⟨b,rfl,hb⟩:=qS ek h2.weak;let s:=s1.trans s2;refine⟨p,_,rfl,.inr ⟨ae,k,b,s _ _ hx,rfl,hb,by rw[r.len];exact hl,rfl⟩,?_⟩;let⟨R2,st⟩:=(R.keep s).Qy (ys:=putK ae k v) (es:=putD ds k x.2) ez hp (s _ _ hx) (Ent.put ⟨r.1,r.2.keep (.same s)⟩ ((h1.keep s2).bI hs));exact q O _ σ R2 ((aH.same s).trans st)
  ·cases e
 ·cases e
end
section
variable {K:Uw}{N:Uv}{H H' H₀:Hp}{I:Nat→Uz}{O:Uv}{σ:L2.St}{env:Ev}
def xv(k:List Key):D:=.tup (k.map xu)
def NP{N:Uv}(k:Key):Rp K N H (kV k) (xu k):=by
 cases k with
 |inl i=>exact .int i
 |inr x=>exact .str x
 |non=>exact .non
theorem A7{N:Uv}:∀ks:List Key,ao K N H (ks.map kV) (ks.map xu)
 |[]=>.nil
 |k::ks=>.cons (NP k) (A7 ks)
def nU:List (M×D)→Us
 |[(m,.dt ks)]=>if own m=true∨m=.un then some (.un,.lst (ks.map λkv=>xv kv.1))else none
 |_=>none
def Hz{X:Cx}(h:X.K=K)(hc:X.calm=true):f6 X (.type "list") (λxs H Q=>∃d ae,xs=[.ref d]∧H d=some (.dT ae)∧∀l bs,H l=none→nS H (ae.map (·.1)) bs→Q (.ref l) (upd H l (.lst (bs.map V.ref)))):=G6 hc
theorem Ae{N:Uv}{p:Addr}{o:HO}(hp:H p=none):∀{ks:List (List Key)}{bs:List Addr},nS H ks bs→ao K N (upd H p o) (bs.map V.ref) (ks.map xv)
 |_,_,.nil=>.nil
 |_,_,.cons h t=>.cons (.tup (.inl (by rw[aD (cu h hp)];exact h)) (A7 _)) (Ae hp t)
set_option tactic.hygienic true in
def Ij:j4 K (λxs H Q=>∃d ae,xs=[.ref d]∧H d=some (.dT ae)∧∀l bs,H l=none→nS H (ae.map (·.1)) bs→Q (.ref l) (upd H l (.lst (bs.map V.ref)))) nU:=by
 intro H₀ O H vs aF Q m d od hd hv h q;unfold nU at h;split at h
 ·rename_i m0 ks;split at h
  ·rename_i hm;cases h;let⟨v,rfl,hw⟩:=hv.one;have:∃p ae,v=.ref p∧H p=some (.dT ae)∧ae.map (·.1)=ks.map (·.1):=by
    cases m0<;>simp only[own,Bool.false_eq_true,false_or,reduceCtorEq,or_false,or_self]at hm<;>simp only[Val,Cell]at hw
    ·let⟨p,rfl,_,_,_,xs,c,z,_⟩:=hw;exact⟨p,xs,rfl,c,z⟩
    ·let⟨p,rfl,_,_,xs,c,z,_⟩:=hw;exact⟨p,xs,rfl,c,z⟩
    ·let⟨p,rfl,_,xs,c,z,_⟩:=hw;exact⟨p,xs,rfl,c,z⟩
   let⟨p,ae,rfl,e,ek⟩:=this;refine⟨p,ae,rfl,e,λl bs hl ka=>q _ _ (bZ hl) ⟨l,rfl,hl,g5 hd hl,eh od hl,_,bh,?_⟩⟩;rw[ek]at ka;have:=Ae (K:=K) (N:=λa=>(¬O a∧H₀ a=none)∧a≠l) (o:=.lst (bs.map V.ref)) hl ka;rw[gU]at this;exact this
  ·cases h
 ·cases h
end
section
variable {K:Uw}{N:Uv}{H H' H₀:Hp}{I:Nat→Uz}{O:Uv}{σ:L2.St}{env:Ev}
theorem qF:∀{n:Nat}{acc:Uy}{c:Int},acc.length=n→(∀(j:Nat) v,acc[j]?=some v→∃t,v=.int (c+(j:Int)) t)→Vals ((List.range n).map λ(k:Nat)=>V.int (c+(k:Int))) acc
 |_,[],_,e,_=>by subst e;exact .nil
 |_,v::acc,c,e,h=>by
  subst e;rw[gq,List.range_succ_eq_map,cj,gU];refine .cons (h 0 v rfl) ?_;have:=qF (c:=c+1) (acc:=acc) rfl λj w hw=>by
   let⟨t,e⟩:=h (j+1) w (by simpa using hw);exact⟨t,by rw[e];congr 1;omega⟩
  let e2:((λ(k:Nat)=>V.int (c+(k:Int)))∘Nat.succ)=λ(k:Nat)=>V.int (c+1+(k:Int)):=funext λk=>by
   show V.int (c+((k+1:Nat):Int))=_;congr 1;omega
  rw[e2];exact this
end
end J
namespace J
open PySem L2
def xx(K:Uw)(n:Nat)(F:Ut→Option D):Sp:=λvs H Q _=>vs.length=n∧∃ds d,C2 K H [0] vs ds∧F ds=some d ∧
 ∀p H',(i7 [0] vs p∨H p=none)→(∀a o,¬i7 [0] vs a→H a=some o→H' a=some o)→(∀a o,H a=some o→∃o',H' a=some o')→Cell K (λ_=>False) H' p d→Q (.ref p) H'
def rZ:Fl→Option D
 |.rt _ m d=>if own m=true∧pO d=true then some d else none
 |_=>none
def mH(L:Nat)(g:Ul):Ut→Option D:=λds=>(g (jv [0] ds++List.replicate (L-ds.length) none)).bind rZ
section
variable {K:Uw}{H H' H₀:Hp}{I:Nat→Uz}{O O':Uv}{σ:L2.St}{env:Ev}
def Ik{ts:TS}{g:Ul}{n:Nat}{N:U3}{vs:List V}{Q:VK}{E:XK}(h:JS K ts g)(hs:xx K n (mH N.length g) vs H Q E):ts { nx:=λ_ H'=>Q .non H',rt:=Q } (L2.start N vs) H:=by
 let⟨hl,ds,d,A,e,q⟩:=hs;let⟨fl,ef,eo⟩:=ak e;let⟨I0,m9,R⟩:=Hj (N:=N) A;refine h H I0 (i7 [0] vs) H _ _ _ fl R ef ?_;cases fl with
 |nx e'=>cases eo
 |bk e'=>cases eo
 |ct e'=>cases eo
 |rt e' m' d' =>
  intro O' H' σ' v R' st hv;unfold rZ at eo;simp only at eo;split at eo
  ·rename_i hm;cases eo;let hc:∃p,v=.ref p∧O' p∧Cell K (λ_=>False) H' p d:=by
    cases m'<;>try (cases hm.1;done)
    ·let⟨p,rfl,o,_,c⟩:=hv;exact⟨p,rfl,o,c.im hm.2⟩
    ·let⟨p,rfl,o,c⟩:=hv;exact⟨p,rfl,o,c.im hm.2⟩
   let⟨p,rfl,o,c⟩:=hc;refine q p H' ?_ (λa o n e=>R'.fr a o (λi z=>n ⟨i,(m9 z).1,(m9 z).2⟩) e) R'.e.hd c;rcases R'.ow p o with⟨i,z⟩|z
   ·exact .inl ⟨i,(m9 z).1,(m9 z).2⟩
   ·exact .inr z
  ·cases eo
def nG{i:Nat}{x:M×D}(h:(env.map λ_=>(none:Us))[i]?=some (some x)):False:=by
 rw[dN]at h;cases q:env[i]? with
 |none=>rw[q]at h;cases h
 |some y=>rw[q]at h;cases h
end
abbrev r6:D→Option (D×D)
 |.tup [a,b]=>some (a,b)
 |_=>none
def JH{d a b:D}(h:r6 d=some (a,b)):d=.tup [a,b]:=by
 unfold r6 at h;split at h
 ·cases h;rfl
 ·cases h
def jE(fc:Up)(fe:Uq)(m:M)(fr:Ev):Ut→Option (List (M×D))
 |[]=>some []
 |d::ds=>(r6 d).bind λp=>(fc (some (aI m,p.1)::some (aI m,p.2)::fr)).bind λb=>if b=true then (fe (some (aI m,p.1)::some (aI m,p.2)::fr)).bind λx=>(jE fc fe m fr ds).bind λr=>some (x::r)else jE fc fe m fr ds
def wq(it:Ev→Option (M×Ut))(ix:U0)(fc:Up)(fe:Uq):Uq:=λe=>(it e).bind λx=>(jE fc fe x.1 (gA e ix) x.2).bind cQ
def iC(K:Uw):TG:=wV K 2 (rM (ft 0) (rM (ft 1) wU))
section
variable {K:Uw}{H H' H₀:Hp}{O:Uv}{σ:L2.St}{env:Ev}
def Af{J:It}{m:M}{ds:Ut}{tc:TT}{te:TE}{fc:Up}{fe:Uq}{H1:Hp}{ix:U0}{de:List (M×D)}{bb:Bool}{Q:Addr→Hp→Prop}{C:Addr}
  (R:b9 K H₀ O H1 σ env) (hm:du m=true) (ok:iP K H₀ O J H1 m ds) (hc:cE K tc fc) (he:JT K te fe) (hl:de.length≤sizeLine) (et:jE fc fe m (gA env ix) ds=some de)
  (hs:∀x∈de,(if bb then bI x.1 x.2 else gw x.1 x.2)=true) (hC:H1 C=none)
  (q:∀ys H',aB H1 H'→H' C=some (.lst ys)→ao K (λa=>¬(O a∨a=C)∧(bb=true→H₀ a=none)) H' ys (de.map (·.2))→Q C H'):rq (iC K) 2 J C H1 (cy σ ix) tc te Q:=by
 let hN:∀{N:Uv}{Ha Hb:Hp},(∀a,N a→a≠C)→(∀b o,b≠C→Ha b=some o→Hb b=some o)→(∀o,Ha C=some o→¬fS o)→Keeps N Ha Hb:=λw s nt a o e z=>s a o (by
  rcases z with z|z
  ·exact w a z
  ·rintro rfl;exact nt o e z) e
 refine⟨λi n H2=>n=ds.length-i∧i≤ds.length∧aB H1 H2∧∃ys acc rest,H2 C=some (.lst ys)∧jE fc fe m (gA env ix) (ds.drop i)=some rest∧de=acc++rest∧ao K (λa=>¬(O a∨a=C)∧(bb=true→H₀ a=none)) H2 ys (acc.map (·.2)),⟨_,rfl,ik _,bZ hC,[],[],de,bh,et,rfl,.nil⟩,?_⟩;rintro i n H2 ⟨rfl,hle,s2,ys,acc,rest,fQ,er,fF,rr⟩;let aR:aH O H1 O H2:=aH.same s2;by_cases aW:i<ds.length
 ·refine .inr ⟨ok.go O H2 i aR aW,λx H3 y=>?_⟩;let xr:aH O H1 (λa=>O a∨a=C) H2:=λa o e n=>⟨s2 a o e,λz=>z.elim n (cu e hC)⟩;let⟨s3,d,hd,hv⟩:=ok.gW (λa=>O a∨a=C) H2 i x H3 xr aW y;let R2:=R.more hC s2 ys fQ;let R3:=R2.keep s3;let pJ:ds.drop i=d::ds.drop (i+1):=by
   rw[yd aW];rw[fI aW]at hd;cases hd;rfl
  rw[pJ]at er;simp only[jE]at er;let⟨⟨d1,d2⟩,ep,FC⟩:=ak er;clear er;let ed:=JH ep;subst ed;let⟨p,xs,rfl,RB,rp⟩:=hv.tup;cases rp with|@cons v1 _ xs _ r1 rp=>cases rp with|@cons v2 _ xs _ r2 rp=>cases rp with|nil =>
  let RC:Val K H₀ (λa=>O a∨a=C) HE H3 (aI m) d1 v1:=by cases m<;>first|exact r1|cases hm
  let RD:Val K H₀ (λa=>O a∨a=C) HE H3 (aI m) d2 v2:=by cases m<;>first|exact r2|cases hm
  let FD:fT (aI m)=true:=by cases m<;>first|rfl|cases hm
  let pL:b9 K H₀ (λa=>O a∨a=C) H3 (some v1::some v2::cy σ ix) (some (aI m,d1)::some (aI m,d2)::gA env ix) :=
   ⟨.cons (λm' d' e=>by cases e;exact⟨FD,v1,rfl,RC⟩) (.cons (λm' d' e=>by cases e;exact⟨FD,v2,rfl,RD⟩) R3.fr),R3.od,R3.hd,R3.on⟩
  let⟨b,eb,er⟩:=ak FC;clear FC;refine⟨p,[v1,v2],rfl,RB,rfl,v1,[v2],rfl,v2,[],rfl,rfl,rfl,⟨[some v1,some v2],rfl,rfl⟩,?_⟩;show tc (some v1::some v2::cy σ ix) H3 _;refine hc H₀ _ H3 _ _ _ b pL eb λH4 s4=>?_;cases b with
  |true =>
   rw[if_pos rfl]at er ⊢;let⟨z,ez,er⟩:=ak er;let⟨r',yS,er⟩:=ak er;cases er;refine he H₀ _ H4 _ _ _ z.1 z.2 (pL.keep s4) ez λw H5 s5 h5=>?_;let i6:aB H2 H5:=(s3.trans s4).trans s5;let yT:ys.length=acc.length:=by rw[rr.len,dC]
   let yU:acc.length<sizeLine:=by
    let e1:=bT List.length fF;rw[cK,gq]at e1;omega
   refine⟨ys,i6 _ _ fQ,by rw[yT];exact yU,ds.length-(i+1),by omega,rfl,aW,?_,ys++[w],acc++[z],r',bh,yS,by rw[fF,List.append_assoc];rfl,?_⟩
   ·intro a o e;rw[aD (cu e hC)];exact i6 _ _ (s2 _ _ e)
   ·rw[fJ];let hz:Rp K (λa=>¬(O a∨a=C)∧(bb=true→H₀ a=none)) H5 w z.2:=by
     let h:=hs z (by rw[fF];exact eQ _ bC);cases bb with
     |true=>exact(h5.bI h).wk λa h _=>⟨h.1,λ_=>h.2⟩
     |false=>exact(h5.gw h).wk λa h _=>⟨h,λz=>nomatch z⟩
    let kp:Keeps (λa=>¬(O a∨a=C)∧(bb=true→H₀ a=none)) H5 (upd H5 C (.lst (ys++[w]))):=hN (λa h z=>h.1 (.inr z)) (λb o ne e=>by rw[aD ne];exact e) (λo e=>by rw[i6 _ _ fQ]at e;cases e;exactλz=>z);exact((rr.keep (.same i6)).keep kp).app (.cons (hz.keep kp) .nil)
  |false =>
   rw[if_neg aL]at er ⊢;let lA:=s3.trans s4;exact⟨ds.length-(i+1),by omega,rfl,aW,s2.trans lA,ys,acc,rest,lA _ _ fQ,er,fF,rr.keep (.same lA)⟩
 ·let hi:i=ds.length:=by omega
  subst hi;rw[ye]at er;cases er;rw[mQ]at fF;subst fF;exact .inl ⟨ok.stop O H2 aR,q ys H2 s2 fQ rr⟩
def A8{wi:TI}{ix:U0}{tc:TT}{te:TE}{it:Ev→Option (M×Ut)}{fc:Up}{fe:Uq}(hi:JI K wi it)(hc:cE K tc fc)(he:JT K te fe):JT K (CL (iC K) 2 wi ix tc te) (wq it ix fc fe):=by
 intro H₀ O H σ env Q m d R e q;let⟨⟨mi,ds⟩,ei,e⟩:=ak e;let⟨de,et,e⟩:=ak e;refine hi H₀ O H σ env _ mi ds R ei λJ H1 s1 hm ok C hC=>?_;let R1:=R.keep s1;unfold cQ at e;split at e
 ·rename_i hl;split at e
  ·rename_i ha;cases e;rw[fH]at ha;refine Af (bb:=true) R1 hm ok hc he hl et (λx hx=>ha x hx) hC λys H' s' hy r=>?_;refine q _ H' (s1.trans s') ⟨C,rfl,s1.free hC,g5 R1.hd hC,eh R1.od hC,ys,hy,r.wk λa h _=>⟨⟨λz=>h.1 (.inl z),h.2 rfl⟩,λz=>h.1 (.inr z)⟩⟩
  ·split at e
   ·rename_i ha;cases e;rw[fH]at ha;refine Af (bb:=false) R1 hm ok hc he hl et (λx hx=>ha x hx) hC λys H' s' hy r=>?_;exact q _ H' (s1.trans s') (Rp.lst (.inl hy) (eh R1.od hC) (r.wk λa h _=>λz=>h.1 (.inl z)))
   ·cases e
 ·cases e
end
def rD:List (M×D)→Us
 |[(m,.lst ds)]=>if du (aI m)=true then some (aI m,.tup ds)else none
 |_=>none
def oE(neg:Bool)(fk fd:Uq):Uq:=λe=>(fk e).bind λy=>(fd e).bind λx=>(tH x.2).bind λks=>(mF y.2).bind λk=>some (.fr,.bl (if neg then !(cB ks k).isSome else (cB ks k).isSome))
section
variable {K:Uw}{H H' H₀:Hp}{O:Uv}{σ:L2.St}{env:Ev}
def NQ{td ty:TE}{fd fk:Uq}(hk:JT K ty fk)(hd:JT K td fd):JT K (w5 ty td) (oE false fk fd):=by
 intro H₀ O H σ env Q m d R h q;let⟨y,ey,h⟩:=ak h;let⟨x,ex,h⟩:=ak h;let⟨ks,fV,h⟩:=ak h;let⟨k,ek,h⟩:=ak h;cases h;refine hk H₀ O H σ env _ y.1 y.2 R ey λw H1 s1 h1=>?_;refine hd H₀ O H1 σ env _ x.1 x.2 (R.keep s1) ex λv H2 s2 h2=>?_;rw[vU fV]at h2;let⟨a,ae,rfl,rd,en⟩:=h2.dt;let⟨b,rfl,hb⟩:=qS ek (h1.keep s2).weak;refine⟨a,cx ae k,rfl,.inr ⟨ae,k,b,rd,rfl,hb,rfl⟩,?_⟩;rw[en.isSome];exact q _ H2 (s1.trans s2) cP
def Il{td ty:TE}{fd fk:Uq}(hk:JT K ty fk)(hd:JT K td fd):JT K (vN ty td) (oE true fk fd):=by
 intro H₀ O H σ env Q m d R h q;let⟨y,ey,h⟩:=ak h;let⟨x,ex,h⟩:=ak h;let⟨ks,fV,h⟩:=ak h;let⟨k,ek,h⟩:=ak h;cases h;refine hk H₀ O H σ env _ y.1 y.2 R ey λw H1 s1 h1=>?_;refine hd H₀ O H1 σ env _ x.1 x.2 (R.keep s1) ex λv H2 s2 h2=>?_;rw[vU fV]at h2;let⟨a,ae,rfl,rd,en⟩:=h2.dt;let⟨b,rfl,hb⟩:=qS ek (h1.keep s2).weak;refine⟨a,cx ae k,rfl,.inr ⟨ae,k,b,rd,rfl,hb,rfl⟩,?_⟩;rw[en.isSome];exact q _ H2 (s1.trans s2) cP
set_option tactic.hygienic true in
def Im:j4 K (λxs H Q=>∃p ys,xs=[.ref p]∧((bf K H p ys∧∀l,H l=none→Q (.ref l) (upd H l (.tup ys)))∨(aQ K H p ys∧Q (.ref p) H))) rD:=by
 intro H₀ O H vs aF Q m d od hd hv h q;unfold rD at h;split at h
 ·rename_i m' ds;split at h
  ·rename_i hm;cases h;let⟨v,rfl,hw⟩:=hv.one;let⟨a,xs,rfl,r,s⟩:=hw.lst;refine⟨_,_,rfl,.inl ⟨r,λl hl=>q _ _ (bZ hl) ?_⟩⟩;let s':=s.keep (H':=upd H l (.tup xs)) (.same (bZ hl));cases m'<;>first|exact Rp.tup (.inl bh) s'|cases hm
  ·cases h
 ·cases h
def G8{X:Cx}(h:X.K=K):f6 X (.type "tuple") (λxs H Q=>∃p ys,xs=[.ref p]∧((bf K H p ys∧∀l,H l=none→Q (.ref l) (upd H l (.tup ys)))∨(aQ K H p ys∧Q (.ref p) H))):=by
 subst h;exact G0
end
section
variable {K:Uw}{H H' H₀:Hp}{I:Nat→Uz}{O:Uv}{σ:L2.St}{env:Ev}
theorem UT.keep{F:Uv}{d:D}{v:V}(s:aB H H')(h:UT K F H d v):UT K F H' d v:=by
 rcases h with⟨z1,z2⟩|⟨q,z1,z2,c⟩
 ·exact .inl ⟨z1,z2.keep (.same s)⟩
 ·let⟨o,e,_⟩:=c.some;exact .inr ⟨q,z1,z2,c.keep (.same s) ((s _ _ e).trans e.symm)⟩
def Rel.FE{i:Nat}{v:V}(R:Rel K H₀ I O H σ env):Rel K H₀ I O H (σ.set i (some v)) (env.set i none):=by
 let at_:∀{j:Nat}{x:M×D},(env.set i none)[j]?=some (some x)→j≠i∧env[j]?=some (some x):=λ{j x} h=>by
  rcases get_set h with⟨_,z⟩|z
  ·cases z
  ·exact z
 let nc:∀{j:Nat}{y:Option V},j≠i→(σ.set i (some v))[j]?=some y→σ[j]?=some y:=λ{j y} n h=>by rwa [cG (λz=>n z.symm)]at h
 refine⟨⟨jo (by rw[gS,gS];exact cf R.e.sl) λj a b h1 h2 m d e=>?_,R.e.od,R.e.hd,R.e.on⟩,R.fr,R.ow,λi' d' p h1 p1=>R.ba i' d' p (at_ h1).2 (nc (at_ h1).1 p1),λi' j x y p h1 h2 o1 o2 p1 p2=>R.dj i' j x y p (at_ h1).2 (at_ h2).2 o1 o2 (nc (at_ h1).1 p1) (nc (at_ h2).1 p2),⟨λi' j d1 d2 h1 h2=>R.nd.1 i' j d1 d2 (at_ h1).2 (at_ h2).2,λi' j d1 x p q xs h1 p1 h2 o2 p2 e=>R.nd.2 i' j d1 x p q xs (at_ h1).2 (nc (at_ h1).1 p1) (at_ h2).2 o2 (nc (at_ h2).1 p2) e⟩⟩;subst e;let⟨nj,h1⟩:=at_ h1;let⟨w,hw,n,hz⟩:=R.e.at h1;rw[nc nj h2]at hw;exact⟨n,w,by simpa using hw,hz⟩
def Cs(Hb H:Hp)(xs:List V)(ds:Ut)(n:Nat):Prop:=∀(k:Nat) (d:D),ds[k]?=some d→(∀l,d=.lst l→∃q ys,xs[k]?=some (.ref q)∧Hb q=none∧H q=some (.lst ys)∧ys.length≤l.length+n)∧∀ks,d=.dk ks→∃q ae,xs[k]?=some (.ref q)∧Hb q=none∧H q=some (.dK ae)∧ae.length≤ks.length+n
def Cs.keep{Hb:Hp}{xs:List V}{ds:Ut}{n:Nat}(s:aB H H')(h:Cs Hb H xs ds n):Cs Hb H' xs ds n:=λk d e=>⟨λl el=>let ⟨q,ys,a,b,c,z⟩:=(h k d e).1 l el;⟨q,ys,a,b,s _ _ c,z⟩,λks el=>let ⟨q,ys,a,b,c,z⟩:=(h k d e).2 ks el;⟨q,ys,a,b,s _ _ c,z⟩⟩
def Cs.of{Hb:Hp}{F:Uv}{xs:List V}{ds:Ut}(w:∀q,F q→Hb q=none)(h:Paired (UT K F H) ds xs):Cs Hb H xs ds 0:=λk d e=>by
 let⟨v,hv,z⟩:=xi h e;refine⟨λl el=>?_,λks el=>?_⟩
 ·subst el;rcases z with⟨z,_⟩|⟨q,rfl,f,c⟩
  ·cases z
  ·let⟨ys,c,r⟩:=c;exact⟨q,ys,hv,w q f,c,mS r.len⟩
 ·subst el;rcases z with⟨z,_⟩|⟨q,rfl,f,c⟩
  ·cases z
  ·let⟨ys,c,e,r⟩:=c;have:=bT List.length e;rw[dC,dC]at this;exact⟨q,ys,hv,w q f,c,mS this⟩
def pT(K:Uw)(i:Nat)(ts:TS)(c:Ev→Nat→Ut→Bool):Prop :=
 ∀H₀ I O Hb H σ env Ds a xs ds n,Rel K H₀ I O Hb σ env→σ[i]?=some (some (.ref a))→aB Hb H→aQ K H a xs→xs.length=ds.length→Cs Hb H xs ds n→c env n ds=true→(∀H',aB Hb H'→aQ K H' a xs→Cs Hb H' xs ds (n+1)→Ds.nx σ H')→ts Ds σ H
def vV{a q:Addr}{xs:List V}{o o':HO}(h:aQ K H a xs)(e:H q=some o)(n:¬fS o):aQ K (upd H q o') a xs:=by
 rcases h with h|h
 ·refine .inl ?_;rw[aD (λz=>by subst z;rw[h]at e;cases e;exact n trivial)];exact h
 ·exact .inr h
def vH{Hb:Hp}{q:Addr}{o:HO}(s:aB Hb H)(h:Hb q=none):aB Hb (upd H q o):=λa u e=>by
 rw[aD (cu e h)];exact s a u e
def Cs.Qz{Hb:Hp}{xs:List V}{ds:Ut}{n:Nat}{q:Addr}{ys:List V}{y:V}(h:Cs Hb H xs ds n)(e:H q=some (.lst ys)):Cs Hb (upd H q (.lst (ys++[y]))) xs ds (n+1):=λk d ed=>by
 refine⟨λl el=>?_,λks el=>?_⟩
 ·let⟨p,zs,a,b,c,z⟩:=(h k d ed).1 l el;by_cases w:p=q
  ·subst w;rw[e]at c;cases c;exact⟨p,_,a,b,bh,by rw[cK];simp only[List.length_cons,List.length_nil];omega⟩
  ·exact⟨p,zs,a,b,by rw[aD w];exact c,by omega⟩
 ·let⟨p,zs,a,b,c,z⟩:=(h k d ed).2 ks el;exact⟨p,zs,a,b,by rw[aD (rJ c e (λw=>nomatch w))];exact c,by omega⟩
def Cs.QB{Hb:Hp}{xs:List V}{ds:Ut}{n:Nat}{q:Addr}{ae:List (Key×V)}{k:Key}{v:V}(h:Cs Hb H xs ds n)(e:H q=some (.dK ae)):Cs Hb (upd H q (.dK (putK ae k v))) xs ds (n+1):=λj d ed=>by
 refine⟨λl el=>?_,λks el=>?_⟩
 ·let⟨p,zs,a,b,c,z⟩:=(h j d ed).1 l el;exact⟨p,zs,a,b,by rw[aD (rJ c e (λw=>nomatch w))];exact c,by omega⟩
 ·let⟨p,zs,a,b,c,z⟩:=(h j d ed).2 ks el;by_cases w:p=q
  ·subst w;rw[e]at c;cases c;have:=qk ae k v;exact⟨p,_,a,b,bh,by omega⟩
  ·exact⟨p,zs,a,b,by rw[aD w];exact c,by omega⟩
def D1(n:Nat)(ds:Ut)(k:Int):Bool:=match L2.aT ds k with
 |some (.lst l)=>decide (l.length+n<sizeLine)
 |_=>false
def D2(n:Nat)(ds:Ut)(k:Int):Bool:=match L2.aT ds k with
 |some (.dk l)=>decide (l.length+n<sizeLine)
 |_=>false
def xA(fk f:Uq):Ev→Nat→Ut→Bool:=λe n ds=>match fk e,f e with
 |some (_,.int k),some _=>D1 n ds k
 |_,_=>false
def xB(fk fy f:Uq):Ev→Nat→Ut→Bool:=λe n ds=>match fk e,fy e,f e with
 |some (_,.int k),some y,some _=>(keyOf y.2).isSome&&D2 n ds k
 |_,_,_=>false
def wt{α:Type}{l:List α}{k:Int}{a:α}(h:L2.aT l k=some a):∃j,cM l.length k=some j∧l[j]?=some a:=by
 unfold L2.aT at h;cases q:cM l.length k with
 |none=>rw[q]at h;cases h
 |some j=>rw[q]at h;exact⟨j,rfl,h⟩
def wu{α:Type}{l:List α}{k:Int}{a:α}{j:Nat}(h:cM l.length k=some j)(e:l[j]?=some a):L2.aT l k=some a:=by
 unfold L2.aT;rw[h];exact e
set_option tactic.hygienic true in
def Pt{i:Nat}{t tk:TE}{f fk:Uq}(hk:JT K tk fk)(h:JT K t f):pT K i (km (jX K "list" nJ (iW (lu K) (eD i) tk) (fu t fA))) (xA fk f):=by
 intro H₀ I O Hb H σ env Ds a xs ds n R hs s sq hl cs hc q;unfold xA at hc;split at hc
 ·rename_i mk k x ek ex;unfold D1 at hc;split at hc
  ·rename_i l el;let hc:=aP hc;let⟨j,ej,ed⟩:=wt el;let⟨p,ys,hx,hb,hp,le⟩:=(cs j _ ed).1 l rfl;refine⟨.ref a,hs,?_⟩;refine hk H₀ O H σ env _ _ _ (R.keep s).e ek λw H1 s1 hw=>?_;refine .inr (.inl ⟨a,xs,k,.ref p,rfl,hw.int,(Keeps.same (N:=λ_=>True) s1).sq sq,wu (by rw[hl];exact ej) hx,?_⟩);refine⟨.inl ⟨rfl,ys,.inl (.inl (s1 _ _ hp))⟩,?_⟩;refine h H₀ O H1 σ env _ x.1 x.2 (R.keep (s.trans s1)).e ex λu H2 s2 hu=>?_;let s3:=s1.trans s2;refine⟨p,ys,u,rfl,rfl,s3 _ _ hp,by omega,?_⟩;exact q _ (vH (s.trans s3) hb) (vV ((Keeps.same (N:=λ_=>True) s3).sq sq) (s3 _ _ hp) (λz=>z)) ((cs.keep s3).Qz (s3 _ _ hp))
  ·cases hc
 ·cases hc
set_option tactic.hygienic true in
def Pu{i:Nat}{t tk ty:TE}{f fk fy:Uq}(hk:JT K tk fk)(hy:JT K ty fy)(h:JT K t f):pT K i (n8 (iW (lu K) (eD i) tk) ty t) (xB fk fy f):=by
 intro H₀ I O Hb H σ env Ds a xs ds n R hs s sq hl cs hc q;unfold xB at hc;split at hc
 ·rename_i mk k y x ek ey ex;let⟨RG,hc⟩:=Bool.and_eq_true_iff.mp hc;let⟨kk,RH⟩:=Option.isSome_iff_exists.mp RG;unfold D2 at hc;split at hc
  ·rename_i l el;let hc:=aP hc;let⟨j,ej,ed⟩:=wt el;let⟨p,ys,hx,hb,hp,le⟩:=(cs j _ ed).2 l rfl;refine h H₀ O H σ env _ x.1 x.2 (R.keep s).e ex λu H1 s1 hu=>?_;refine⟨.ref a,hs,?_⟩;refine hk H₀ O H1 σ env _ _ _ (R.keep (s.trans s1)).e ek λw H2 s2 hw=>?_;let y8:=s1.trans s2;refine .inr (.inl ⟨a,xs,k,.ref p,rfl,hw.int,(Keeps.same (N:=λ_=>True) y8).sq sq,wu (by rw[hl];exact ej) hx,?_⟩);refine hy H₀ O H2 σ env _ y.1 y.2 (R.keep (s.trans y8)).e ey λz H3 s3 hz=>?_;obtain rfl:=jt RH hz.weak;let s4:=y8.trans s3;refine⟨p,_,rfl,.inl ⟨ys,kk,s4 _ _ hp,rfl,by omega,rfl⟩,?_⟩;exact q _ (vH (s.trans s4) hb) (vV ((Keeps.same (N:=λ_=>True) s4).sq sq) (s4 _ _ hp) (λz=>z)) ((cs.keep s4).QB (s4 _ _ hp))
  ·cases hc
 ·cases hc
abbrev xC:List (Ev→Nat→Ut→Bool)→Ev→Nat→Ut→Bool
 |[],_,_,_=>true
 |c::r,e,n,ds=>c e n ds&&xC r e (n+1) ds
inductive mI (K:Uw)(i:Nat):List TS→List (Ev→Nat→Ut→Bool)→Prop
 |nil:mI K i [] []
 |cons {t:TS}{c:Ev→Nat→Ut→Bool}{ts:List TS}{cs:List (Ev→Nat→Ut→Bool)}:pT K i t c→mI K i ts cs→mI K i (t::ts) (c::cs)
theorem BW{i:Nat}{a:Addr}{xs:List V}{ds:Ut}{tb:TS}{Ds:Ends}:∀{ts:List TS}{cs:List (Ev→Nat→Ut→Bool)}{n:Nat}{Hb H:Hp},mI K i ts cs→Rel K H₀ I O Hb σ env→σ[i]?=some (some (.ref a))→aB Hb H→aQ K H a xs→xs.length=ds.length→Cs Hb H xs ds n→xC cs env n ds=true→(∀H',aB Hb H'→tb Ds σ H')→ts.foldr jL tb Ds σ H
 |_,_,_,_,_,.nil,_,_,s,_,_,_,_,q=>q _ s
 |_,_,n,Hb,H,.cons h t,R,hs,s,sq,hl,cs,hc,q=>by
  let⟨h1,h2⟩:=Bool.and_eq_true_iff.mp hc;exact h H₀ I O Hb H σ env _ a xs ds n R hs s sq hl cs h1 λH' s' RJ RK=>BW t R hs s' RJ hl RK h2 q
def FG(i:Nat)(f:Uq)(c:Up)(r:Uq)(cs:List (Ev→Nat→Ut→Bool))(b:Ul):Ul:=λe=>(f e).bind λx=>match x with
 | (.ut,.tup ds)=>(c (e.set i (some (.fr,.tup ds)))).bind λz=>if z=true then aN r (e.set i (some (.fr,.tup ds)))else if xC cs (e.set i none) 0 ds=true∧i<e.length then b (e.set i none)else none
 |_=>none
def Pw{i:Nat}{t tr:TE}{tc:TT}{ts:List TS}{tb:TS}{f r:Uq}{c:Up}{cs:List (Ev→Nat→Ut→Bool)}{b:Ul}(hf:JT K t f)(hc:cE K tc c)(hr:JT K tr r)(fP:mI K i ts cs)(hb:JS K tb b) :
  JS K (jL (gJ t (ft i)) (jL (sC tc (oi tr) rL) (ts.foldr jL tb))) (FG i f c r cs b):=by
 intro H₀ I O H σ env Ds fl R e q;let⟨x,ex,e⟩:=ak e;split at e
 ·rename_i ds;let⟨z,ez,e⟩:=ak e;refine hf H₀ O H σ env _ _ _ R.e ex λv H1 s1 h1=>?_;let R1:Rel K H₀ I O H1 (σ.set i (some v)) (env.set i (some (.fr,.tup ds))):=(R.keep s1).set_plain rfl rfl (show Rp K _ H1 v _ from h1.bI rfl);refine hc H₀ O H1 _ _ _ z R1.e ez λH2 s2=>?_;cases z with
  |true =>
   rw[if_pos rfl]at e ⊢;let⟨y,ey,e⟩:=ak e;cases e;let q':=q.pre (aH.same (s1.trans s2));exact hr H₀ O H2 _ _ _ y.1 y.2 (R1.keep s2).e ey λw H3 s3 h3=>q' O H3 _ w ((R1.keep s2).keep s3) (aH.same s3) h3.h0
  |false =>
   rw[if_neg aL]at e ⊢;split at e
   ·rename_i hh;let⟨a,xs,i5,rfl,ed,sq,pr⟩:=h1;cases ed;let s:=s1.trans s2;let hlen:i<σ.length:=by rw[←cf R.e.sl];exact hh.2
    refine BW (Hb:=H) (n:=0) fP R.FE (by rw[List.getElem?_set_self hlen]) s ((Keeps.same (N:=λ_=>True) s2).sq sq) (cf pr).symm ((Cs.of (λq z=>z.1) pr).keep s2) hh.1 λH' s'=>?_;exact hb H₀ I O H' _ _ _ fl (R.FE.keep s') e (q.pre (aH.same s'))
   ·cases e
 ·cases e
end
end J
namespace J
open PySem PySem.Spec PyProof.Rows L2
section
variable {X:Cx}{pins:Ux}{σ:L2.St}{H:Hp}{s:Shared}{a it:Addr}
end
section
variable {K:Uw}{N:Uv}{H H' H₀:Hp}{I:Nat→Uz}{O:Uv}{σ:L2.St}{env:Ev}
end
section
variable {K:Uw}{N:Uv}{H H' H₀:Hp}{I:Nat→Uz}{O:Uv}{σ:L2.St}{env:Ev}
section
variable {prog:Program}{w:World}{A:Around}{d r:Addr}{es:Array DictEntry}{ep:Nat}
end
noncomputable abbrev Fj:=Uq
inductive uS (K:Uw):List (TE×TE)→List (Fj×Fj)→Prop
 |nil:uS K [] []
 |cons {tk tv:TE}{fk fv:Fj}{ts:List (TE×TE)}{fs:List (Fj×Fj)}:JT K tk fk→JT K tv fv→uS K ts fs→uS K ((tk,tv)::ts) ((fk,fv)::fs)
abbrev pU:Option Int→Tok→Value
 |some n,t=>.int n t
 |none,_=>.none
end
def Lq(n:Nat)(p:Array Nat):Prop:=0<n∧p.size=n∧∀x∈p,x<n
def Lq.at{n:Nat}{p:Array Nat}(h:Lq n p)(i:Nat):p.getD i 0<n:=by
 by_cases hi:i<p.size
 ·rw[show p.getD i 0=p[i] by simp[hi]];exact h.2.2 _ (Array.getElem_mem hi)
 ·rw[show p.getD i 0=0 by simp[hi]];exact h.1
section
variable {prog:Program}{w:World}{A:Around}{E:Uu}{s:Shared}
end
section
variable {K:Uw}{N:Uv}{H H' H₀:Hp}{I:Nat→Uz}{O:Uv}{σ:L2.St}{env:Ev}
abbrev kP(p:Int×Int):List Key:=[.inl p.1,.inl p.2]
abbrev two:List Int→Option (Int×Int)
 |[a,b]=>some (a,b)
 |_=>none
abbrev kI:Key→Option Int
 |.inl i=>some i
 |_=>none
def EC(K:Uw):R2:=λx y H Q=>(x=.non∧(∃b xs,y=.ref b∧aQ K H b xs)∧Q (.bl false) H)∨tf K x y H Q
def NR{X:Cx}(h:X.K=K)(hu:X.A.units+64<cLine):a8 X (compareOp .Eq) (EC K):=by
 subst h;intro pins s σ H x y v u Q I rx ry h;rcases h with⟨rfl,⟨b,xs,rfl,hq⟩,q⟩|h
 ·cases (show v=Value.none from rx);cases (show u=Value.ref b from ry);let⟨its,_,pl,_⟩:=I.tuple hq;exact SeqAt.RcAt.none_tuple pl (by omega) X.prog X.w X.xe _ ⟨.bl _,H,I,rfl,q⟩
 ·exact CM hu pins s σ H x y v u Q I rx ry h
def mK:M×D→M×D→Us
 | (_,.non),(_,.tup _)=>some (.fr,.bl false)
 |a,b=>gj a b
def NS:JR K (EC K) mK:=by
 intro H₀ O H x y a b Q m d od hd h1 h2 h q;unfold mK at h;split at h
 ·cases h;let⟨p,xs,rfl,hs,_⟩:=h2.tup;exact .inl ⟨h1.non,⟨p,xs,rfl,hs⟩,q _ H (aB.refl H) cP⟩
 ·exact .inr (C3 H₀ O H x y a b Q m d od hd h1 h2 h q)
end
section
variable {K:Uw}{H H' H₀:Hp}{I:Nat→Uz}{O:Uv}{σ:L2.St}{env:Ev}
def BX:V→List V→Hp→VK→Prop:=λx vs H Q=>∃l xs i y,x=.ref l∧vs=[.int i,y]∧H l=some (.lst xs)∧0≤i∧i≤xs.length∧xs.length<sizeLine∧Q .non (upd H l (.lst (xs.take i.toNat++y::xs.drop i.toNat)))
def Io{xs:List V}{us:Uy}(r:Vals xs us):∀k,Vals (xs.take k) (us.take k):=by
 induction r with
 |nil=>intro k;rw[List.take_nil,List.take_nil];exact .nil
 |cons a t ih=>intro k;cases k with
  |zero=>exact .nil
  |succ k=>exact .cons a (ih k)
def Ip{xs:List V}{us:Uy}(r:Vals xs us):∀k,Vals (xs.drop k) (us.drop k):=by
 induction r with
 |nil=>intro k;rw[List.drop_nil,List.drop_nil];exact .nil
 |cons a t ih=>intro k;cases k with
  |zero=>exact .cons a t
  |succ k=>exact ih k
def Iq{X:Cx}:uD X "list.insert" BX:=by
 intro pins s σ H x vs v us Q I rx rv h;let⟨l,xs,i,y,rfl,rfl,hH,h0,h1,hz,q⟩:=h;cases rx;let⟨u,w,rfl,⟨tk,rfl⟩,ru⟩:=rv.two;let⟨z,its,n,r,hl,e⟩:=I.sQ hH;let hn:xs.length=its.length:=r.length;let hs:xs.length≤16777216:=Nat.le_of_lt hz;refine call_meets F.slot_list_insert ⟨_,e,rfl⟩ F.entry_list_insert (F.args_list_insert_3 _ _ _) (AutoSeq1.list_insert_list_int_val_1 l its.toArray n i tk w (by
  have:Builtin.List.listFitsIndex i=true:=by
   unfold Builtin.List.listFitsIndex;rw[k8];exact⟨bz (by omega),bz (by omega)⟩
  rw[this];decide) (by rw[dO];omega)) ⟨e,?_⟩
 refine⟨.non,_,I.sO (its':=its.take i.toNat++w::its.drop i.toNat) hH e ?_ ((Io r _).append (.cons ru (Ip r _))) ?_,rfl,q⟩
 ·show(its.toArray.extract 0 (if i<0 then (i+(its.toArray.size:Int)).toNat else min i.toNat its.toArray.size)).push w++its.toArray.extract (if i<0 then (i+(its.toArray.size:Int)).toNat else min i.toNat its.toArray.size)=_;rw[if_neg (by omega),dO,Nat.min_eq_left (by omega)];apply Array.toList_inj.mp;simp;exact List.take_of_length_le (by simp)
 ·rw[cK,gq,tX,List.length_drop];omega
def Cs.QC{Hb:Hp}{xs:List V}{ds:Ut}{n:Nat}{q:Addr}{ys:List V}(h:Cs Hb H xs ds n)(e:H q=some (.lst ys)):Cs Hb (upd H q (.lst [])) xs ds (n+1):=λk d ed=>by
 refine⟨λl el=>?_,λks el=>?_⟩
 ·let⟨p,zs,a,b,c,z⟩:=(h k d ed).1 l el;by_cases w:p=q
  ·subst w;exact⟨p,_,a,b,bh,ik _⟩
  ·exact⟨p,zs,a,b,by rw[aD w];exact c,Nat.le_succ_of_le z⟩
 ·let⟨p,zs,a,b,c,z⟩:=(h k d ed).2 ks el;exact⟨p,zs,a,b,by rw[aD (rJ c e (λw=>nomatch w))];exact c,Nat.le_succ_of_le z⟩
def D3(ds:Ut)(k:Int):Bool:=match L2.aT ds k with
 |some (.lst _)=>true
 |_=>false
def xD(fk:Uq):Ev→Nat→Ut→Bool:=λe _ ds=>match fk e with
 |some (_,.int k)=>D3 ds k
 |_=>false
set_option tactic.hygienic true in
def Px{i:Nat}{tk:TE}{fk:Uq}(hk:JT K tk fk):pT K i (km (sN K "list" Cv (iW (lu K) (eD i) tk))) (xD fk):=by
 intro H₀ I O Hb H σ env Ds a xs ds n R hs s sq hl cs hc q;unfold xD at hc;split at hc
 ·rename_i mk k ek;unfold D3 at hc;split at hc
  ·rename_i l el;let⟨j,ej,ed⟩:=wt el;let⟨p,ys,hx,hb,hp,le⟩:=(cs j _ ed).1 l rfl;refine⟨.ref a,hs,?_⟩;refine hk H₀ O H σ env _ _ _ (R.keep s).e ek λw H1 s1 hw=>?_;refine .inr (.inl ⟨a,xs,k,.ref p,rfl,hw.int,(Keeps.same (N:=λ_=>True) s1).sq sq,wu (by rw[hl];exact ej) hx,?_⟩);refine⟨.inl ⟨rfl,ys,.inl (.inl (s1 _ _ hp))⟩,p,ys,rfl,rfl,s1 _ _ hp,?_⟩;exact q _ (vH (s.trans s1) hb) (vV ((Keeps.same (N:=λ_=>True) s1).sq sq) (s1 _ _ hp) (λz=>z)) ((cs.keep s1).QC (s1 _ _ hp))
  ·cases hc
 ·cases hc
end
section
variable {K:Uw}{H H' H₀:Hp}{I:Nat→Uz}{O:Uv}{σ:L2.St}{env:Ev}
abbrev FH:M×D→Option (Ut)
 | (.un,.lst ds)=>some ds
 |_=>none
def NT{x:M×D}{es:Ut}(h:FH x=some es):x=(.un,.lst es):=by
 let⟨m,d⟩:=x;cases m<;>try (cases h;done)
 cases d<;>try (cases h;done)
 cases h;rfl
end
abbrev xE(n:Nat):It:=⟨λi _=>i<n,λi H x H'=>H'=H∧x=.int ((n:Int)-1-i),λi _=>n≤i⟩
def JK{P:Program}{w:World}{K:Uw}{tg:Expr}(it:Addr)(n:Nat):Turn P w K tg (xE n) [it] it (λi h=>IsRangeIter h it ((n:Int)-1+(i:Nat)*(-1)) ((n:Int)-(i:Nat)) (-1)) where
 mem:=by simp
 obj:=λi h st b hb=>by
  let e:b=it:=by simpa using hb
  subst e;exact⟨_,st,λv z=>by
   let z':Data.fields _=Data.cell v:=z;cases z'⟩
 keep:=λi h h' st k=>k it (by simp) _ st
 item:=by
  intro X hP hw hK hc i pins s σ H E I hf st hg;subst hP hw hK;let⟨f0,f1,f2,f3,f4,f5⟩:=hf it (by simp);let W:=Walks.range (prog:=X.prog) (w:=X.w) (I.ok.hd hc) it ((n:Int)-1) (-1) n;refine W.item i s _ _ hg st λv h' tk hv eU kk=>?_;let⟨t,rfl⟩:=hv;let I1:Inv X pins σ H { s with heap:=h',toks:=tk }:=I.turned (λb o hb e=>kk b o (by simpa using hb) e) f0 f1 f3 f4 f5;refine⟨_,rfl,nY (s:={ s with heap:=h',toks:=tk }) (n := "range_iterator") eU rfl rfl (by decide) ⟨.int ((n:Int)-1-i),H,I1,⟨t,?_⟩,⟨rfl,rfl⟩,eU,λb hb=>(hf b hb).1⟩⟩;rw[Int.mul_neg,Int.mul_one];rfl
 done:=by
  intro X hP hw hK hc i pins s σ H E I hf st hg;subst hP hw hK;let⟨f0,f1,f2,f3,f4,f5⟩:=hf it (by simp);exact wpAny_pyNext_range_end (I.ok.hd hc) st (by have:n≤i:=hg;omega) λh' eb=>⟨rfl,I.turned (t':=s.toks) (λb o hb e=>eb b o hb e) f0 f1 f3 f4 f5⟩
 self:=λ_ _ _ _ _ st h=>wpAny_pyIter_rangeiter st h
section
variable {X:Cx}{tg:Expr}
end
section
variable {K:Uw}{H H' H₀:Hp}{O:Uv}{σ:L2.St}{env:Ev}
def JL{n:Nat}:iP K H₀ O (xE n) H .fr (bH 0 n).reverse:=by
 let l:(bH 0 n).reverse.length=n:=by simp[bH]
 refine⟨λO2 H2 i s hi=>by rw[l]at hi;exact hi,λO2 H2 i x H3 s hi y=>?_,λO2 H2 s=>by rw[l];exact aK n⟩;let⟨rfl,rfl⟩:=y;rw[l]at hi;refine⟨aB.refl _,.int ((n:Int)-1-i),?_,Rp.int _⟩;let hl:(bH 0 n).length=n:=by simp[bH]
 rw[List.getElem?_reverse (by rw[hl];exact hi),hl];let hk:n-1-i<n:=by omega
 simp[bH,hk];omega
end
section
variable {K:Uw}{H H' H₀:Hp}{I:Nat→Uz}{O:Uv}{σ:L2.St}{env:Ev}
def r9(i k:Nat)(F:Ur)(g:M×D→Ev→Option Ev)(b:Ul):Ul:=λe=>(eJ k e).bind λy=>(y.2[y.2.length-1]?).bind λd=>(iO (.fr,d)).bind λj =>
 b4 (cN (aJ F (ag (jV i) (ag (jC (.int j)) ai)))) g b (e.set k (some (y.1,.lst y.2.dropLast)))
def Li{i k:Nat}{F:Ur}{E:XK}{g:TG}{tb:TS}{fg:M×D→Ev→Option Ev}{b:Ul}(hg:JG K g fg)(hb:JS K tb b) :
  JS K (sE (rN K (nZ (j5 K 2 F) [] E (fu (eD i) (fu (sN K "list" Et (eD k)) fA)))) g tb) (r9 i k F fg b):=by
 intro H₀ I O H σ env Ds fl R e q;let⟨⟨m,ds⟩,ey,e⟩:=ak e;let⟨d,ed,e⟩:=ak e;let⟨j,ej,e⟩:=ak e;let⟨p,xs,hp,hO,hx,r⟩:=R.lst ey;let⟨v,hv,rv⟩:=r.get ed;let⟨R2,st⟩:=R.xm (ys:=xs.dropLast) (es:=ds.dropLast) ey hp hx r.dl;let ej:=ra ej;dsimp only at ej;subst ej;let hj:v=.int j:=by cases rv;rfl
 subst hj;let z:=CW (BG (BI (n:=2) (F:=F) (E:=E) (vE (CP (i:=i)) (vE (kU (v:=.int j) (d:=.int j) rfl) BD)) ?_)) hg hb H₀ I O _ σ _ Ds fl R2 e (q.pre st)
 ·let⟨w,hw,z⟩:=z;exact⟨w,hw,.ref p,hp,.inl ⟨rfl,xs,.inl (.inl hx)⟩,p,xs,.int j,rfl,rfl,hx,by rw[r.len];exact hv,z⟩
 ·intro e aF h;let⟨x,_,h⟩:=ak h;let⟨y,h1,h⟩:=ak h;let⟨z,_,h1⟩:=ak h1;let⟨w,h2,h1⟩:=ak h1;cases h2;cases h1;cases h;rfl
end
end J
namespace L2
open PySem PySem.Spec PyProof.Rows
section
variable {X:Cx}
end
end L2
namespace J
open PySem PySem.Spec PyProof.Rows L2
section
variable {K:Uw}{H H' H₀:Hp}{I:Nat→Uz}{O:Uv}{σ:L2.St}{env:Ev}
def ao.erase{P:Uv}{xs:List V}{ds:Ut}(r:ao K P H xs ds)(j:Nat):ao K P H (xs.eraseIdx j) (ds.eraseIdx j):=by
 induction xs generalizing ds j with
 |nil=>cases r;exact .nil
 |cons v xs ih =>
  cases r with
  |cons a b =>
   cases j with
   |zero=>exact b
   |succ j=>exact .cons a (ih b j)
end
section
variable {K:Uw}{H H' H₀:Hp}{I:Nat→Uz}{O:Uv}{σ:L2.St}{env:Ev}
end
section
variable {K:Uw}{N:Uv}{H H' H₀:Hp}{I:Nat→Uz}{O:Uv}{σ:L2.St}{env:Ev}
abbrev RL(lo st:Option Int)(n:Nat):U0:=sliceRange (sliceBounds lo none st n).1 (sliceBounds lo none st n).2.1 (sliceBounds lo none st n).2.2
def pk{α:Type}(lo st:Option Int)(xs:List α):List α:=(RL lo st xs.length).filterMap λi=>xs[i]?
end
section
variable {X:Cx}{tg:Expr}
def D4(ta:TA):TI:=λσ H R=>ta σ H λvs H1=>∃j:Int,vs=[.int j,.int (-1),.int (-1)]∧-1≤j∧j<2^62∧R (xE (j+1).toNat) H1
def BZ{j:Int}(h:-1≤j):Builtin.Range.rangeSize j (-1) (-1)=((j+1).toNat:Nat):=by
 unfold Builtin.Range.rangeSize;by_cases h0:j=-1
 ·subst h0;decide
 ·rw[if_neg (by decide),if_pos (by omega),show -(-1:Int)=1 from rfl,Int.ediv_one];omega
def JM{j:Int}(h:-1≤j)(h2:j<2^62):Builtin.Range.small j (-1) (-1)=true:=by
 let fl:∀i:Int,-(2^63)≤i→i<2^63→Builtin.Range.rangeFitsLong i=true:=λi a b=>by
  unfold Builtin.Range.rangeFitsLong;rw[bz a,bz b];rfl
 unfold Builtin.Range.small;rw[BZ h,fl j (by omega) (by omega),fl (-1) (by decide) (by decide),fl _ (show -(2^63)≤(((j+1).toNat:Nat):Int) by omega) (by omega)];rw[if_neg (by decide),fl (-1+(-1+1)) (by decide) (by decide)];simp
def Ir {a b c:Expr}{ta:TA}{p pos:Pos} (hg:Gl X "range") (hm:X.mg "range" = none) (ha:PA X [a,b,c] ta) (hs:starEach [a,b,c] X.env=[(false,eval a X.env),(false,eval b X.env),(false,eval c X.env)]:=by rfl) (FJ:starEach [b,c] X.env=[(false,eval b X.env),(false,eval c X.env)]:=by rfl) :
  PI X tg (.Call (.Name "range" p) [a,b,c] [] pos) (D4 ta):=by
 intro pins s σ H R I h;refine Call_ (lQ I hg hm boot_range (tV (ay (ha pos pins s σ H _ I h) λus s1 ⟨vs,H1,I1,r1,q1⟩=>?_) (by rw[hs,FJ]) (by rw[FJ];rfl)));let⟨j,e,q1,q2,q⟩:=q1;subst e;cases r1 with
 |cons r rr =>
  cases rr with
  |cons r' rr =>
   cases rr with
   |cons RM rr =>
    cases rr;let⟨t,rfl⟩:=r;let⟨t',rfl⟩:=r';let⟨uT,rfl⟩:=RM;refine call_range_3 (by decide) ?_ (Or.inl (PyProof.noPylong_small (by decide)));refine wpAny_pyIter_range (IsRange.new ..) (JM q1 q2) ?_;let I2:Inv X pins σ H1 { s1 with heap:=s1.heap.push { cls:=.type "range",data:=.fields #[.int j t,.int (-1) t',.int (-1) uT] } }:=I1.kept (t':=s1.toks) λb o e=>cJ _ e;refine⟨(s1.heap.push { cls:=.type "range",data:=.fields #[.int j t,.int (-1) t',.int (-1) uT] }).objs.size,[(s1.heap.push { cls:=.type "range",data:=.fields #[.int j t,.int (-1) t',.int (-1) uT] }).objs.size],_,_,H1,rfl,I2.kept (t':=s1.toks) λb o e=>cJ _ e,JK _ (j+1).toNat,?_,λb hb=>?_,q⟩
    ·show IsRangeIter _ _ ((((j+1).toNat:Nat):Int)-1+((0:Nat):Int)*(-1)) ((((j+1).toNat:Nat):Int)-((0:Nat):Int)) (-1);rw[show(((j+1).toNat:Nat):Int)-1+((0:Nat):Int)*(-1)=j by omega,show(((j+1).toNat:Nat):Int)-((0:Nat):Int)=Builtin.Range.rangeSize j (-1) (-1) by rw[BZ q1];omega];exact eO _ rfl
    ·let e:b=(s1.heap.push { cls:=.type "range",data:=.fields #[.int j t,.int (-1) t',.int (-1) uT] }).objs.size:=by simpa using hb
     subst e;exact I2.my (aK _) (I2.aA.fresh (aK _))
end
section
variable {K:Uw}{H H' H₀:Hp}{O:Uv}{σ:L2.St}{env:Ev}
def NV{Hb:Hp}{a b c:M×D}{vs:List V}(h:fB K H₀ O Hb H [a,b,c] vs):∃v w u,vs=[v,w,u]∧Val K H₀ O Hb H a.1 a.2 v∧Val K H₀ O Hb H b.1 b.2 w∧Val K H₀ O Hb H c.1 c.2 u:=by
 cases h with
 |cons x h=>cases h with
  |cons y h=>cases h with
   |cons z h=>cases h;exact⟨_,_,_,rfl,x,y,z⟩
def tI(fs:Um):Ev→Option (M×Ut):=λe=>(fs e).bind λl=>match l with
 |[(_,.int j),(_,.int b),(_,.int c)]=>if -1≤j∧j<4611686018427387904∧b=-1∧c=-1 then some (.fr,(bH 0 (j+1).toNat).reverse)else none
 |_=>none
def Lj{t:TA}{fs:Um}(h:gZ K t fs):JI K (D4 t) (tI fs):=by
 intro H₀ O H σ env R m ds Re e q;let⟨l,el,e⟩:=ak e;split at e
 ·split at e
  ·rename_i hj;cases e;let⟨h1,h2,rfl,rfl⟩:=hj;refine h H₀ O H σ env _ _ Re el λvs H1 s1 hv=>?_;let⟨v,w,u,rfl,hv,hw,hu⟩:=NV hv;obtain rfl:=hv.int;obtain rfl:=hw.int;obtain rfl:=hu.int;exact⟨_,rfl,h1,by rw[yR];exact h2,q _ H1 s1 rfl JL⟩
  ·cases e
 ·cases e
end
section
variable {K:Uw}{H H' H₀:Hp}{I:Nat→Uz}{O:Uv}{σ:L2.St}{env:Ev}
def wx(F:Ut→Option D)(f:Uq):Ul:=λe=>(f e).bind λx=>(FH x).bind λes=>if D.dJ es=true then (F [.lst es]).bind λd=>some (.rt (e.map λ_=>none) .bo d)else none
def JN{F:Ut→Option D}{f:Uq}{te:TE}{E:XK}(h:JT K te f):JS K (oi (nZ (xx K 1 F) [] E (fu te fA))) (wx F f):=by
 intro H₀ I O H σ env Ds fl R e q;let⟨x,ex,e⟩:=ak e;let⟨es,eu,e⟩:=ak e;split at e
 ·rename_i uR;let⟨d,eF,e⟩:=ak e;cases e;obtain rfl:=NT eu;refine h H₀ O H σ env _ .un (.lst es) R.e ex λv H1 s1 h1=>?_;let⟨b,rfl,FK,FL,y9,cb⟩:=h1;let R1:=R.keep s1;let pV:∀a,i7 [0] [V.ref b] a→a=b:=by
   rintro a ⟨i,hi,hv⟩;have:i=0:=List.mem_singleton.mp hi;subst this;cases hv;rfl
  let Tz:i7 [0] [V.ref b] b:=⟨0,List.mem_singleton.mpr rfl,rfl⟩;refine⟨rfl,[.lst es],d,⟨rfl,λi v d ni hv _=>?_,λi d hi hd=>?_,λi j p hi hj _ _=>?_⟩,eF,λp H2 FN kp RN c=>?_⟩
  ·cases i with
   |zero=>exact absurd (List.mem_singleton.mpr rfl) ni
   |succ i=>cases hv
  ·have:i=0:=List.mem_singleton.mp hi;subst this;cases hd;exact⟨b,rfl,cb.im uR⟩
  ·rw[List.mem_singleton.mp hi,List.mem_singleton.mp hj]
  ·let FP:H₀ p=none:=by
    rcases FN with w|w
    ·rw[pV p w];exact FL
    ·cases z:H₀ p with
     |none=>rfl
     |some o=>let⟨o',z⟩:=R1.e.hd p o z;rw[w]at z;cases z
   let nb:∀a,O a→¬i7 [0] [V.ref b] a:=λa ho w=>y9 (pV a w▸ho);let R2:Rel K H₀ I (λa=>a=p∨O a) H2 σ (env.map λ_=>none):=by
    refine⟨⟨jo (by rw[dC];exact cf R.e.sl) (λj a b h1 _ m d ea=>by subst ea;exact(nG h1).elim),?_,?_,?_⟩,?_,?_,λi d p h1=>(nG h1).elim,λi j x y p h1=>(nG h1).elim,⟨λi j d d' h1=>(nG h1).elim,λi j d x p q xs h1=>(nG h1).elim⟩⟩
    ·rintro a (rfl|ho)
     ·let⟨o,eo,_⟩:=c.some;exact⟨o,eo⟩
     ·let⟨o,eo⟩:=R1.e.od a ho;exact⟨o,kp a o (nb a ho) eo⟩
    ·intro a o h0;let⟨o',h1⟩:=R1.e.hd a o h0;exact RN a o' h1
    ·rintro a o (rfl|ho) ea
     ·let⟨o',eo,nt⟩:=c.some;rw[eo]at ea;cases ea;exact nt
     ·let⟨o',eo⟩:=R1.e.od a ho;have:=kp a o' (nb a ho) eo;rw[this]at ea;cases ea;exact R1.e.on a _ ho eo
    ·intro a o ni h0;refine kp a o (λw=>?_) (R1.fr a o ni h0);rw[pV a w,FL]at h0;cases h0
    ·rintro a (rfl|ho)
     ·exact .inr FP
     ·exact R1.ow a ho
   refine q (λa=>a=p∨O a) H2 σ (.ref p) R2 (λa o ha no=>⟨kp a o (λw=>?_) (s1 _ _ ha),?_⟩) ⟨p,rfl,.inl rfl,FP,c.wk λ_ z _=>z.elim⟩
   ·rw[pV a w,FK]at ha;cases ha
   ·rintro(rfl|ho)
    ·rcases FN with w|w
     ·rw[pV _ w,FK]at ha;cases ha
     ·rw[s1 _ _ ha]at w;cases w
    ·exact no ho
 ·cases e
end
def vW:V→List V→Hp→VK→Prop:=λx vs H Q=>∃a b ae dh,x=.ref a∧vs=[.ref b]∧a≠b∧H a=some (.dK ae)∧H b=some (.dK dh)∧ae.length+dh.length≤sizeLine∧Q .non (upd H a (.dK (gD ae dh)))
def Iu{X:Cx}:uC X "dict.update" vW:=by
 intro pins s σ H x vs v us Q I rx rv h;let⟨a,b,ae,dh,rfl,rfl,dD,hA,hB,hz,q⟩:=h;cases rx;let⟨u,rfl,ru⟩:=rv.one;cases ru;let⟨z,lo,vs,r,dd⟩:=(I.aA a _ hA:bS X.prog X.w H s.heap a (.dK ae));let⟨z2,RP,RQ,r2,m3⟩:=(I.aA b _ hB:bS X.prog X.w H s.heap b (.dK dh));let el:=r.length;let TY:=r2.length;refine t9 F.slot_dict_update dd.typeIs F.entry_dict_update (F.args_dict_update_2 _ _) (meets_dict_update (bJ X.prog X.w) a b dD RP) ⟨vs,RQ,dd,m3,by omega,λh' d1 _ sb=>?_⟩;exact⟨.non,_,qY (ob:=.dK (gD ae dh)) (t':=s.toks) I (by rw[hA];exact True.intro) sb (let ⟨q,_,_,hq,_⟩:=d1;⟨q,hq⟩) (wd (by have:=vn dh ae;omega) lo (r2.merge r) d1),rfl,q⟩
section
variable {K:Uw}{H H' H₀:Hp}{I:Nat→Uz}{O:Uv}{σ:L2.St}{env:Ev}
abbrev FQ:M×D→Option (List (Key×D))
 | (.un,.dk ds)=>some ds
 |_=>none
def NW{x:M×D}{es:List (Key×D)}(h:FQ x=some es):x=(.un,.dk es):=by
 let⟨m,d⟩:=x;cases m<;>try (cases h;done)
 cases d<;>try (cases h;done)
 cases h;rfl
def kZ(ks es:List (Key×D)):List (Key×D):=es.foldl (λacc kv=>putD acc kv.1 kv.2) ks
theorem Ent.merge{N:Uv}:∀{dh:List (Key×V)}{es:List (Key×D)}{ae:List (Key×V)}{ks:List (Key×D)},Ent K N H dh es→Ent K N H ae ks→Ent K N H (gD ae dh) (kZ ks es)
  |[],es,ae,ks,h,h2=>by
    cases es with
    |nil=>exact h2
    |cons _ _=>exact absurd h.len (by simp)
  |p::dh,es,ae,ks,h,h2=>by
    cases es with
    |nil=>exact absurd h.len (by simp)
    |cons z es =>
      let⟨e,r,h3⟩:=h.cons_inv;have:=Ent.merge h3 (h2.put (k:=p.1) r);rw[e]at this;show Ent K N H (gD (putK ae p.1 p.2) dh) (kZ (putD ks z.1 z.2) es);rw[e];exact this
def xF(i:Nat)(f:Uq):Ul:=λe=>(f e).bind λx=>(FQ x).bind λes=>(kY i e).bind λy=>if y.2.length+es.length≤sizeLine then some (.nx (e.set i (some (y.1,.dk (kZ y.2 es)))))else none
def NX{i:Nat}{t:TE}{f:Uq}(h:JT K t f):JS K (km (jX K "dict" vW (eD i) (fu t fA))) (xF i f):=by
 intro H₀ I O H σ env Ds fl R e q;let⟨x,ex,e⟩:=ak e;let⟨es,eu,e⟩:=ak e;let⟨⟨m,ds⟩,ey,e⟩:=ak e;split at e
 ·rename_i hl;cases e;obtain rfl:=NW eu;let⟨p,ae,hp,hO,hx,r⟩:=R.dct ey;refine⟨.ref p,hp,.inr (.inr (.inl ⟨rfl,.inl ⟨ae,hx⟩⟩)),?_⟩;refine h H₀ O H σ env _ .un (.dk es) R.e ex λv H1 s1 h1=>?_;let⟨b,rfl,_,_,y9,dh,hb,ek,rz⟩:=h1;let R1:=R.keep s1;let FU:Ent K (λa=>¬O a∧H₀ a=none) H1 dh es:=⟨ek,rz.wk λa z _=>z.1⟩;refine⟨p,b,ae,dh,rfl,rfl,λz=>y9 (z▸hO),s1 _ _ hx,hb,by rw[r.len,FU.len];exact hl,?_⟩;let⟨R2,st⟩:=R1.Ez (ys:=gD ae dh) (es:=kZ ds es) ey hp (s1 _ _ hx) (FU.merge ⟨r.1,r.2.keep (.same s1)⟩);exact q O _ σ R2 ((aH.same s1).trans st)
 ·cases e
end
end J
set_option genInjectivity false
set_option genSizeOf false
namespace C
open PySem PySem.Spec L2 J
inductive Bo where|add|sub|mul|div|mod|pow
inductive Co where|lt|gt|eq|ne|eZ|lB|uU|pW|i9|uV
inductive Uo where|neg
inductive Fb where|int|list|len|uW|sf|tuple
abbrev Bo.op:Bo→Operator
 |.add=>.Add
 |.sub=>.Sub
 |.mul=>.Mult
 |.div=>.FloorDiv
 |.mod=>.Mod
 |.pow=>.Pow
def Bo.g:Bo→M×D→M×D→Us
 |.add=>bp
 |.sub=>gP
 |.mul=>cW
 |.div=>cv
 |.mod=>bt
 |.pow=>kW
def Bo.ok{K:Uw}:∀o:Bo,∃r,(∀Z:Cx,Z.K=K→a8 Z (binaryOp o.op) r)∧JR K r o.g
 |.add=>⟨_,λ_ h=>K0 h,K1⟩
 |.sub=>⟨_,λ_ _=>Mj,ML⟩
 |.mul=>⟨_,λ_ _=>Ml,MN⟩
 |.div=>⟨_,λ_ _=>Jo,KQ⟩
 |.mod=>⟨_,λ_ _=>Mm,MP⟩
 |.pow=>⟨_,λ_ _=>Mp,MQ⟩
def Co.op:Co→CmpOp
 |.lt=>.Lt
 |.gt=>.Gt
 |.eq=>.Eq
 |.ne=>.NotEq
 |.eZ=>.Is
 |.lB=>.IsNot
 |.uU=>.In
 |.pW=>.Eq
 |.i9=>.NotEq
 |.uV=>.Eq
def Co.g:Co→M×D→M×D→Us
 |.lt=>g0
 |.gt=>uL
 |.eq=>bA
 |.ne=>j0
 |.eZ=>mD
 |.lB=>ku
 |.uU=>tD false
 |.pW=>gj
 |.i9=>dA
 |.uV=>mK
def Co.ok{K:Uw}:∀o:Co,∃r,(∀Z:Cx,Z.K=K→Z.A.units+64<cLine→a8 Z (compareOp o.op) r)∧JR K r o.g
 |.lt=>⟨_,λ_ _ _=>OS,O7⟩
 |.gt=>⟨_,λ_ _ _=>OU,O8⟩
 |.eq=>⟨_,λ_ _ _=>OO,O9⟩
 |.ne=>⟨_,λ_ _ _=>OQ,Pa⟩
 |.eZ=>⟨_,λ_ _ _=>Mr,MR⟩
 |.lB=>⟨_,λ_ _ _=>Kh,Kw⟩
 |.uU=>⟨_,λ_ h _=>Hw h,Pk⟩
 |.pW=>⟨_,λ_ h u=>Nt h u,C3⟩
 |.i9=>⟨_,λ_ h u=>Nu h u,Nr⟩
 |.uV=>⟨_,λ_ h u=>NR h u,NS⟩
abbrev Uo.op:Uo→UnaryOp
 |.neg=>.USub
def Uo.g:Uo→M×D→Us
 |.neg=>gf
def Uo.ok{K:Uw}:∀o:Uo,∃r,(∀Z:Cx,uz Z (unaryOp o.op) r)∧JU K r o.g
 |.neg=>⟨_,λ_=>Mq,Nb⟩
abbrev Fb.nm:Fb→String
 |.int => "int"
 |.list => "list"
 |.len => "len"
 |.uW => "isinstance"
 |.sf => "list"
 |.tuple => "tuple"
def Fb.g:Fb→List (M×D)→Us
 |.int=>oB
 |.list=>ml
 |.len=>cA
 |.uW=>mE
 |.sf=>nU
 |.tuple=>rD
inductive Gv where|s (x:Str)|t (l:U3)
abbrev Gv.d:Gv→D
 |.s x=>.str x
 |.t l=>.tup (l.map .str)
mutual
inductive X where|v (i:Nat)|ki (i:Int)|ks (s:Str)|kb (b:Bool)|kn|ty (n:String)|bo (o:Bo) (a b:X)|co (o:Co) (a b:X)|uo (o:Uo) (a:X)|an (a b:X)|or (a b:X)|nt (a:X)|ie (t:T) (a b:X)|tu (l:A)|li (l:A)|dK|d1 (a b:X)|ix (a b:X)|dg (a b:X)|g2 (d k x:X)|dT|iC (d k x:X)|fb (f:Fb) (l:A)|ca (f:Nat) (l:A)|cp (i:I) (ix:U0) (t:T) (e:X)|c2 (i:I) (ix:U0) (t:T) (e:X)
inductive Pp where|n|c (a b:X) (l:Pp)
inductive A where|n|c (a:X) (l:A)
inductive T where|b (x:X)|c (o:Co) (a b:X)|d (n:Bool) (a b:X)|t (n:Bool) (a b:X)|h (o p:Co) (a b c:X)|an (a b:T)|or (a b:T)|nt (a:T)|y
inductive P where|n|s (x:X)
inductive I where|r1 (l:A)|en (l:A)|s (x:X)|t (x:X)|l (x:X)|r3 (l:A)
end
mutual
inductive G where|n (i:Nat)|t (k:Nat) (l:Gs)|l (k:Nat) (l:Gs)
inductive Gs where|n|c (g:G) (l:Gs)
end
inductive L where|rt (x:X)|nv|st (i:Nat) (x:X)|sc (j:Nat) (i:I) (ix:U0) (q:T) (e:X)|si (k:Nat) (i x:X)|dp (k:Nat) (i x:X)|ap (k:Nat) (x:X)|na (k:Nat) (i x:X)|ne (i:Nat) (it:I)|tp (k:Nat) (i x:X)|ud (k:Nat) (x:X)|rU (f:Nat) (x:X)
inductive Ch where|a (k x:X)|d (k y x:X)|c (k:X)
mutual
inductive S where|l (x:L)|ie (t:T) (a b:B)|fo (i:I) (g:G) (b:B)|wh (t:T) (b:B)|fz (k:Nat) (s:S)|fp (i k f:Nat) (g:G) (b:B)
inductive B where|n|o (s:S)|c (s:S) (b:B)|u (i:Nat) (x:X) (q:T) (r:X) (cs:List Ch) (b:B)
end
inductive FT where
 |p (F:Ur)|oo (F:Ut→Option D)
abbrev FT.f:Option FT→Ur
 |some (.p F)=>F
 |_=>λ_=>none
abbrev FT.q:Option FT→Ut→Option D
 |some (.oo F)=>F
 |_=>λ_=>none
mutual
abbrev eX(t:List FT):X→Uq
 |.v i=>jV i
 |.ki i=>jC (.int i)
 |.ks s=>jC (.str s)
 |.kb b=>jC (.bl b)
 |.kn=>jC .non
 |.ty n=>jC (.ty n)
 |.bo o a b=>ah o.g (eX t a) (eX t b)
 |.co o a b=>ah o.g (eX t a) (eX t b)
 |.uo o a=>eY o.g (eX t a)
 |.an a b=>oz (eX t a) (eX t b)
 |.or a b=>yN (eX t a) (eX t b)
 |.nt a=>xj (eX t a)
 |.ie c a b=>tm (eT t c) (eX t a) (eX t b)
 |.tu l=>bG (eA t l)
 |.li l=>a9 (eA t l)
 |.dK=>lV
 |.d1 a b=>wN (eX t a) (eX t b)
 |.ix a b=>ah aC (eX t a) (eX t b)
 |.dg a b=>hZ (eX t a) (eX t b)
 |.g2 d k x=>rC (eX t d) (eX t k) (eX t x)
 |.dT=>rX
 |.iC d k x=>jD (eX t d) (eX t k) (eX t x)
 |.fb f l=>bY f.g (eA t l)
 |.ca f l=>aJ (FT.f t[f]?) (eA t l)
 |.cp i ix c e=>jH (eI t i) ix (eT t c) (eX t e)
 |.c2 i ix c e=>wq (eI t i) ix (eT t c) (eX t e)
abbrev FV(t:List FT):Pp→List (Fj×Fj)
 |.n=>[]
 |.c a b l=>(eX t a,eX t b)::FV t l
abbrev eA(t:List FT):A→Um
 |.n=>ai
 |.c a l=>ag (eX t a) (eA t l)
abbrev eT(t:List FT):T→Up
 |.b x=>jB (eX t x)
 |.c o a b=>jB (ah o.g (eX t a) (eX t b))
 |.d n a b=>jB (cX n (eX t a) (eX t b))
 |.t n a b=>jB (oE n (eX t a) (eX t b))
 |.h o p a b c=>jB (wj o.g p.g (eX t a) (eX t b) (eX t c))
 |.an a b=>fC (eT t a) (eT t b)
 |.or a b=>gx (eT t a) (eT t b)
 |.nt a=>oA (eT t a)
 |.y=>ia
abbrev eP(t:List FT):P→Ev→Option (Option Int)
 |.n=>xk
 |.s x=>wK (eX t x)
abbrev eI(t:List FT):I→Ev→Option (M×Ut)
 |.r1 l=>dw (eA t l)
 |.r3 l=>tI (eA t l)
 |.en l=>fh (eA t l)
 |.s x=>yW (eX t x)
 |.t x=>uO (eX t x)
 |.l x=>cN (eX t x)
end
mutual
abbrev eG:G→M×D→Ev→Option Ev
 |.n i=>gN i
 |.t k l=>gT k (uX l)
 |.l k l=>gL k (uX l)
abbrev uX:Gs→M→Ut→Ev→Option Ev
 |.n=>fw
 |.c g l=>b6 (eG g) (uX l)
end
def eL(t:List FT):L→Ul
 |.rt x=>aN (eX t x)
 |.nv=>g9
 |.st i x=>aE i (eX t x)
 |.sc j i ix q e=>aE j (eX t (.cp i ix q e))
 |.si k i x=>g8 k (eX t i) (eX t x)
 |.dp k i x=>kH k (eX t i) (eX t x)
 |.ap k x=>dM k (eX t x)
 |.na k i x=>D0 k (eX t i) (eX t x)
 |.ne i it=>DZ i (eI t it)
 |.tp k i x=>rY k (eX t i) (eX t x)
 |.ud k x=>xF k (eX t x)
 |.rU f x=>wx (FT.q t[f]?) (eX t x)
def za(t:List FT):Ch→Ev→Nat→Ut→Bool
 |.a k x=>xA (eX t k) (eX t x)
 |.d k y x=>xB (eX t k) (eX t y) (eX t x)
 |.c k=>xD (eX t k)
mutual
abbrev eS(t:List FT):S→Ul
 |.l x=>eL t x
 |.ie c a b=>aU (eT t c) (eB t a) (eB t b)
 |.fo i g b=>b4 (eI t i) (eG g) (eB t b)
 |.wh c b=>gE (eT t c) (eB t b)
 |.fz k s=>dq k (eS t s)
 |.fp i k f g b=>r9 i k (FT.f t[f]?) (eG g) (eB t b)
abbrev eB(t:List FT):B→Ul
 |.n=>bj
 |.o s=>eS t s
 |.c s b=>au (eS t s) (eB t b)
 |.u i x q r cs b=>FG i (eX t x) (eT t q) (eX t r) (cs.map (za t)) (eB t b)
end
end C
set_option genInjectivity true
namespace C
open PySem PySem.Spec L2 J
abbrev b8:Expr→Bool
 |.Starred ..=>false
 |_=>true
abbrev jf:Expr→Bool
 |.Slice ..=>false
 |_=>true
abbrev FW:Expr→Bool
 |.Name ..=>true
 |.Call ..=>true
 |.Subscript ..=>true
 |_=>false
abbrev lC:Expr→Bool
 |.Name ..=>true
 |.Constant ..=>true
 |.Subscript ..=>true
 |.Call _ (_::_) _ _=>true
 |_=>false
abbrev gk:Expr→Bool
 |.Set ..=>false
 |_=>true
abbrev kJ:Expr→Bool
 |.ListComp ..=>false
 |.SetComp ..=>false
 |.DictComp ..=>false
 |_=>true
abbrev D5:Expr→Bool
 |.Tuple ..=>true
 |_=>false
def a6{e:Expr}(h:b8 e=true){es:U2}{env:Env}:starEach (e::es) env=(false,eval e env)::starEach es env:=by
 cases e<;>first|rfl|cases h
def bL{i:Expr}(h:jf i=true):Bu i:=by
 intro o v;cases i<;>first|rfl|cases h
def Lk{i:Expr}(h:jf i=true):w4 i:=by
 intro o v;cases i<;>first|rfl|cases h
def NZ{i o:Expr}{pos:Pos}{env:Env}(h:jf i=true)(v:Value):assign (Expr.Subscript o i pos) env v=(do
  let ov ←holding [v] (eval o env)
  let iv ←holding [v,ov] (eval i env)
  standAt pos
  holding [v,ov,iv] (setItem ov iv v)
  PySem.release [v,ov,iv] []):=by
 cases i<;>first|rfl|cases h
def N0{a:Expr}{env:Env}(h:FW a=true)(whole:Sem Value):PySem.isTrue a env whole=(do
  let v ←whole
  standAt (Expr.pos a)
  holding [v] (truthy v)):=by
 cases a<;>first|rfl|cases h
set_option tactic.hygienic true in
def lW{o:Expr}{m:Str}{env:Env}{w:Sem Value}(h:lC o=true):attributeBase o m env w=w:=by
 cases o<;>first|rfl | (cases h;done)|skip
 rename_i f l kw p;cases l with
 |nil=>cases h
 |cons a l=>cases f<;>rfl
def lO{op:CmpOp}{e:Expr}(h:gk e=true):behindInMarks op e=false:=by
 cases e<;>first|rfl|cases h
def g6{e:Expr}{env:Env}(h:gk e=true)(x:Value):foldedSetIterable e env x=pure x:=by
 cases e<;>first|rfl|cases h
abbrev zb(sc:Scope)(x:Str):Bool:=match sc.names.lookup x with
 |some .local=>true
 |some .cell=>true
 |some .free=>true
 |_=>false
def C6{sc:Scope}{x:Str}(h:zb sc x=true):ur sc x:=by
 unfold zb at h;unfold ur;split at h<;>first|exact absurd h aL|simp_all
abbrev gl(sc:Scope)(x:Str):Bool:=match sc.names.lookup x with
 |some .globalImplicit=>true
 |_=>false
def Py{sc:Scope}{x:Str}(h:gl sc x=true):sc.names.lookup x=some .globalImplicit:=by
 unfold gl at h;split at h<;>first|exact absurd h aL|assumption
abbrev rl(sc aj:Scope):Scope :=
  { kind:=aj.kind,names:=aj.names.map (λ(n,k)=>if (k==NameKind.free&&sc.kind==ScopeKind.function&&sc.names.lookup n==some NameKind.cell)=true then (n,NameKind.cell)else (n,k)),
    isGenerator:=aj.isGenerator,isCoroutine:=aj.isCoroutine,more:=aj.more }
abbrev zc(N N':U3)(sc aj:Scope)(x:Str)(ix:U0):Bool :=
 decide (aj.kind=.function∧(∀y∈aj.names,y.2≠.cell)∧(∀y∈aj.names,y.2=.local→aj.names.lookup y.1=some .local)∧aj.names.lookup x=some .local ∧
  (∀y∈aj.names,y.2=.free→sc.names.lookup y.1=some .cell)∧N'.Nodup∧N'[0]?=some x∧N'.length=ix.length+1 ∧
  (∀p∈ix.zip N'.tail,N[p.1]?=some p.2∧sc.names.lookup p.2=some .cell∧aj.names.lookup p.2=some .free))
def wy{N N':U3}{sc aj:Scope}{x:Str}{ix:U0}(h:zc N N' sc aj x ix=true):iJ N N' sc aj x ix:=by
 let⟨h1,h2,h3,h4,h5,h6,h7,h8,h9⟩:=aP h;exact⟨h1,h2,h3,h4,h5,h6,h7,h8,h9⟩
abbrev ED(N N':U3)(sc aj:Scope)(x y:Str)(ix:U0):Bool :=
 decide (aj.kind=.function∧(∀y∈aj.names,y.2≠.cell)∧(∀y∈aj.names,y.2=.local→aj.names.lookup y.1=some .local)∧(aj.names.lookup x=some .local∧aj.names.lookup y=some .local) ∧
  (∀y∈aj.names,y.2=.free→sc.names.lookup y.1=some .cell)∧N'.Nodup∧(N'[0]?=some x∧N'[1]?=some y)∧N'.length=ix.length+2 ∧
  (∀p∈ix.zip (N'.drop 2),N[p.1]?=some p.2∧sc.names.lookup p.2=some .cell∧aj.names.lookup p.2=some .free))
def Ln{N N':U3}{sc aj:Scope}{x y:Str}{ix:U0}(h:ED N N' sc aj x y ix=true):qZ 2 N N' sc aj ix∧N'.Nodup∧(N'[0]?=some x∧N'[1]?=some y)∧aj.names.lookup x=some .local∧aj.names.lookup y=some .local:=by
 let⟨h1,h2,h3,h4,h5,h6,h7,h8,h9⟩:=aP h;exact⟨⟨h1,h2,h3,h5,h8,h9⟩,h6,h7,h4⟩
structure Fi where
 nm:Str
 ar:Nat
 lv:Nat
 io:Option (U0):=none
 df:Option (Option Int):=none
abbrev Gv.is:Gv→Gv→Bool
 |.s x,.s y=>decide (x=y)
 |.t x,.t y=>decide (x=y)
 |_,_=>false
structure Cf where
 bs:List String
 gs:List (Str×Gv)
 fs:List Fi
abbrev ns(N:U3)(x:Str)(ix:U0):U3:=x::ix.map λi=>(N[i]?).getD ""
abbrev jh(N:U3)(x y:Str)(ix:U0):U3:=x::y::ix.map λi=>(N[i]?).getD ""
abbrev tys:List String:=["bool", "int", "str", "tuple", "list", "dict"]
abbrev nin(n:Bool):CmpOp:=if n then .NotIn else .In
abbrev on{α:Type}(o:Option α)(f:α→Bool):Bool:=match o with
 |some a=>f a
 |none=>false
def aq{α:Type}{o:Option α}{f:α→Bool}(h:on o f=true):∃a,o=some a∧f a=true:=by
 cases o with
 |none=>cases h
 |some a=>exact⟨a,rfl,h⟩
abbrev ng:Expr→Option Str
 |.Name x _=>some x
 |_=>none
abbrev eK:Expr→Option Const
 |.Constant c _ _=>some c
 |_=>none
abbrev FX:Const→Option Int
 |.int i=>some i
 |_=>none
abbrev FY:Const→Option Str
 |.str i=>some i
 |_=>none
abbrev FZ:Const→Option Bool
 |.bool i=>some i
 |_=>none
abbrev F1:Const→Bool
 |.none=>true
 |_=>false
abbrev F2:Expr→Option (Expr×Operator×Expr)
 |.BinOp l op r _=>some (l,op,r)
 |_=>none
abbrev uY:Expr→Option (UnaryOp×Expr)
 |.UnaryOp op e _=>some (op,e)
 |_=>none
abbrev zf:Expr→Option (Expr×List CmpOp×U2)
 |.Compare l ops rs _=>some (l,ops,rs)
 |_=>none
abbrev l1{α:Type}:List α→Option α
 |[a]=>some a
 |_=>none
abbrev l2{α:Type}:List α→Option (α×α)
 |[a,b]=>some (a,b)
 |_=>none
abbrev fW{α:Type}:List α→Option (α×List α)
 |a::l=>some (a,l)
 |_=>none
def pX(e:Expr):Option (Expr×CmpOp×Expr):=(zf e).bind λq=>(l1 q.2.1).bind λop=>(l1 q.2.2).map λr=>(q.1,op,r)
def F3(e:Expr):Option (Expr×CmpOp×CmpOp×Expr×Expr):=(zf e).bind λq=>(l2 q.2.1).bind λop=>(l2 q.2.2).map λr=>(q.1,op.1,op.2,r.1,r.2)
abbrev F4:Expr→Option (BoolOp×U2×Pos)
 |.BoolOp op vs pos=>some (op,vs,pos)
 |_=>none
def oF(o:BoolOp)(e:Expr):Option (Expr×Expr):=(F4 e).bind λq=>if q.1=o then (fW q.2.1).bind λa=>(fW a.2).map λb=>(a.1,match b.2 with
 |[]=>b.1
 |_=>.BoolOp o (b.1::b.2) q.2.2)else none
abbrev F5:Expr→Option (Expr×Expr×Expr)
 |.IfExp e l r _=>some (e,l,r)
 |_=>none
abbrev uZ:Expr→Option (U2)
 |.Tuple es _ _=>some es
 |_=>none
abbrev F6:Expr→Option (U2)
 |.List es _=>some es
 |_=>none
abbrev u5:Expr→Option (List (Option Expr)×U2)
 |.Dict ks vs _=>some (ks,vs)
 |_=>none
abbrev iD:Expr→Option (Expr×Expr)
 |.Subscript l r _=>some (l,r)
 |_=>none
abbrev zg:Expr→Option (Expr×U2×List Keyword×Pos)
 |.Call f as kw cp=>some (f,as,kw,cp)
 |_=>none
abbrev F7:Expr→Option (Expr×Str×Pos)
 |.Attribute o m ap=>some (o,m,ap)
 |_=>none
def eM(nm:String)(e:Expr):Option (Expr×U2):=(zg e).bind λq=>(F7 q.1).bind λa=>if a.2.1=Str.ofString nm∧q.2.2.1.isEmpty=true∧lC a.1=true∧(a.2.2.endLine==q.2.2.2.line)=true∧q.2.1.all b8=true then some (a.1,q.2.1)else none
def eN(e:Expr):Option (Str×U2):=(zg e).bind λq=>(ng q.1).bind λx=>if q.2.2.1.isEmpty=true∧q.2.1.all b8=true then some (x,q.2.1)else none
abbrev tJ:Expr→Option (Expr×Str×Pos×Expr×U2×Scope×Pos)
 |.ListComp el [⟨.Name z pz,it,ifs,0⟩] aj ep=>some (el,z,pz,it,ifs,aj,ep)
 |_=>none
abbrev xG:U2→Option ((Str×Pos)×Str×Pos)
 |[.Name x px,.Name y py]=>some ((x,px),y,py)
 |_=>none
abbrev wO:Expr→Option (Expr×(U2×Nat×Pos)×Expr×U2×Scope×Pos)
 |.ListComp el [⟨.Tuple es k pt,it,ifs,0⟩] aj ep=>some (el,(es,k,pt),it,ifs,aj,ep)
 |_=>none
def gC{α β:Type}{o:Option α}{f:α→Option β}{b:β}(h:o.bind f=some b):∃a,o=some a∧f a=some b:=by
 cases o with
 |none=>cases h
 |some a=>exact⟨a,rfl,h⟩
def rE{α β:Type}{o:Option α}{f:α→β}{b:β}(h:o.map f=some b):∃a,o=some a∧f a=b:=by
 cases o with
 |none=>cases h
 |some a=>exact⟨a,rfl,by simpa using h⟩
def lX{e:Expr}{x:Str}(h:ng e=some x):∃p,e=.Name x p:=by
 cases e<;>cases h;exact⟨_,rfl⟩
def sg{e:Expr}{k:Const}(h:eK e=some k):∃j p,e=.Constant k j p:=by
 cases e<;>cases h;exact⟨_,_,rfl⟩
def Pz{k:Const}{i:Int}(h:FX k=some i):k=.int i:=by
 cases k<;>cases h;rfl
def PB{k:Const}{i:Str}(h:FY k=some i):k=.str i:=by
 cases k<;>cases h;rfl
def PD{k:Const}{i:Bool}(h:FZ k=some i):k=.bool i:=by
 cases k<;>cases h;rfl
def PF{k:Const}(h:F1 k=true):k=.none:=by
 cases k<;>first|rfl|exact absurd h aL
def N1{e l r:Expr}{op:Operator}(h:F2 e=some (l,op,r)):∃p,e=.BinOp l op r p:=by
 cases e<;>cases h;exact⟨_,rfl⟩
def wz{e a:Expr}{op:UnaryOp}(h:uY e=some (op,a)):∃p,e=.UnaryOp op a p:=by
 cases e<;>cases h;exact⟨_,rfl⟩
def dI{α:Type}{l:List α}{a:α}(h:l1 l=some a):l=[a]:=by
 cases l with
 |nil=>cases h
 |cons b l=>cases l<;>cases h;rfl
def sj{α:Type}{l:List α}{a:α×α}(h:l2 l=some a):l=[a.1,a.2]:=by
 cases l with
 |nil=>cases h
 |cons b l =>
  cases l with
  |nil=>cases h
  |cons d l=>cases l<;>cases h;rfl
def gF{α:Type}{l:List α}{a:α×List α}(h:fW l=some a):l=a.1::a.2:=by
 cases l<;>cases h;rfl
def C7{e:Expr}{q:Expr×List CmpOp×U2}(h:zf e=some q):∃p,e=.Compare q.1 q.2.1 q.2.2 p:=by
 cases e<;>cases h;exact⟨_,rfl⟩
def rF{e l r:Expr}{op:CmpOp}(h:pX e=some (l,op,r)):∃p,e=.Compare l [op] [r] p:=by
 let⟨q,h1,h⟩:=gC h;let⟨a,h2,h⟩:=gC h;let⟨b,h3,h⟩:=rE h;cases h;let⟨p,rfl⟩:=C7 h1;exact⟨p,by rw[dI h2,dI h3]⟩
def N2{e l m r:Expr}{op op':CmpOp}(h:F3 e=some (l,op,op',m,r)):∃p,e=.Compare l [op,op'] [m,r] p:=by
 let⟨q,h1,h⟩:=gC h;let⟨a,h2,h⟩:=gC h;let⟨b,h3,h⟩:=rE h;cases h;let⟨p,rfl⟩:=C7 h1;exact⟨p,by rw[sj h2,sj h3]⟩
def N3{e:Expr}{q:BoolOp×U2×Pos}(h:F4 e=some q):e=.BoolOp q.1 q.2.1 q.2.2:=by
 cases e<;>cases h;rfl
def rj{o:BoolOp}{e a b:Expr}(h:oF o e=some (a,b)):∃m rest pos,e=.BoolOp o (a::m::rest) pos∧((rest=[]∧b=m)∨b=.BoolOp o (m::rest) pos):=by
 let⟨q,h1,g⟩:=gC h;let e0:=N3 h1;by_cases e:q.1=o
 ·rw[if_pos e]at g;let⟨x,h2,g⟩:=gC g;let⟨y,h3,g⟩:=rE g;let e2:q.2.1=x.1::y.1::y.2:=by rw[gF h2,gF h3]
  let ea:x.1=a:=bT Prod.fst g;let eb:=bT Prod.snd g;refine⟨y.1,y.2,q.2.2,by rw[e0,e2,e,ea],?_⟩;cases hy:y.2 with
  |nil=>rw[hy]at eb;exact .inl ⟨rfl,eb.symm⟩
  |cons z zs=>rw[hy]at eb;exact .inr eb.symm
 ·rw[if_neg e]at g;cases g
def N4{e a b d:Expr}(h:F5 e=some (a,b,d)):∃p,e=.IfExp a b d p:=by
 cases e<;>cases h;exact⟨_,rfl⟩
def wA{e:Expr}{es:U2}(h:uZ e=some es):∃k p,e=.Tuple es k p:=by
 cases e<;>cases h;exact⟨_,_,rfl⟩
def N5{e:Expr}{es:U2}(h:F6 e=some es):∃p,e=.List es p:=by
 cases e<;>cases h;exact⟨_,rfl⟩
def wB{e:Expr}{q:List (Option Expr)×U2}(h:u5 e=some q):∃p,e=.Dict q.1 q.2 p:=by
 cases e<;>cases h;exact⟨_,rfl⟩
def hG{e l r:Expr}(h:iD e=some (l,r)):∃p,e=.Subscript l r p:=by
 cases e<;>cases h;exact⟨_,rfl⟩
def C8{e:Expr}{q:Expr×U2×List Keyword×Pos}(h:zg e=some q):e=.Call q.1 q.2.1 q.2.2.1 q.2.2.2:=by
 cases e<;>cases h;rfl
def N6{e:Expr}{q:Expr×Str×Pos}(h:F7 e=some q):e=.Attribute q.1 q.2.1 q.2.2:=by
 cases e<;>cases h;rfl
def jI{nm:String}{e o:Expr}{as:U2}(h:eM nm e=some (o,as)):∃ap cp,e=.Call (.Attribute o (Str.ofString nm) ap) as [] cp∧lC o=true∧(ap.endLine==cp.line)=true∧as.all b8=true:=by
 let⟨q,h1,h⟩:=gC h;let⟨a,h2,h⟩:=gC h;split at h
 ·rename_i g;cases h;refine⟨a.2.2,q.2.2.2,?_,g.2.2.1,g.2.2.2.1,g.2.2.2.2⟩;rw[C8 h1,N6 h2,g.1,cL.mp g.2.1]
 ·cases h
def kK{e:Expr}{x:Str}{as:U2}(h:eN e=some (x,as)):∃p cp,e=.Call (.Name x p) as [] cp∧as.all b8=true:=by
 let⟨q,h1,h⟩:=gC h;let⟨y,h2,h⟩:=gC h;split at h
 ·rename_i g;cases h;let⟨p,e2⟩:=lX h2;exact⟨p,q.2.2.2,by rw[C8 h1,e2,cL.mp g.1],g.2⟩
 ·cases h
def Lp{es:U2}{x y:Str}{px py:Pos}(h:xG es=some ((x,px),y,py)):es=[.Name x px,.Name y py]:=by
 unfold xG at h;split at h
 ·cases h;rfl
 ·cases h
def JQ{e el it:Expr}{es:U2}{k:Nat}{pt ep:Pos}{ifs:U2}{aj:Scope}(h:wO e=some (el,(es,k,pt),it,ifs,aj,ep)):e=.ListComp el [⟨.Tuple es k pt,it,ifs,0⟩] aj ep:=by
 unfold wO at h;split at h
 ·cases h;rfl
 ·cases h
def vX{e el it:Expr}{z:Str}{pz ep:Pos}{ifs:U2}{aj:Scope}(h:tJ e=some (el,z,pz,it,ifs,aj,ep)):e=.ListComp el [⟨.Name z pz,it,ifs,0⟩] aj ep:=by
 unfold tJ at h;split at h
 ·cases h;rfl
 ·cases h
abbrev pY:T→Bool
 |.y=>true
 |_=>false
mutual
abbrev kX(c:Cf)(lv:Nat):X→Scope→U3→Expr→Bool
 |.v i,sc,N,e=>on (ng e) λx=>decide (N[i]?=some x)&&zb sc x&&!(x == "__debug__")&&!(x == "__classdict__")
 |.ki i,_,_,e=>on (eK e) λk=>on (FX k) λj=>decide (i=j)
 |.ks i,_,_,e=>on (eK e) λk=>on (FY k) λj=>decide (i=j)
 |.kb i,_,_,e=>on (eK e) λk=>on (FZ k) λj=>decide (i=j)
 |.kn,_,_,e=>on (eK e) F1
 |.ty n,sc,_,e=>on (ng e) λx=>decide (x=Str.ofString n)&&gl sc x&&c.bs.contains n&&tys.contains n
 |.bo o a b,sc,N,e=>on (F2 e) λq=>decide (q.2.1=o.op)&&kX c lv a sc N q.1&&kX c lv b sc N q.2.2
 |.co o a b,sc,N,e=>on (pX e) λq=>decide (q.2.1=o.op)&&gk q.2.2&&kX c lv a sc N q.1&&kX c lv b sc N q.2.2
 |.uo o a,sc,N,e=>on (uY e) λq=>decide (q.1=o.op)&&kX c lv a sc N q.2
 |.an a b,sc,N,e=>on (oF .And e) λq=>kX c lv a sc N q.1&&kX c lv b sc N q.2
 |.or a b,sc,N,e=>on (oF .Or e) λq=>kX c lv a sc N q.1&&kX c lv b sc N q.2
 |.nt a,sc,N,e=>on (uY e) λq=>decide (q.1=.Not)&&kX c lv a sc N q.2
 |.ie t a b,sc,N,e=>on (F5 e) λq=>kT c lv t sc N q.1&&kX c lv a sc N q.2.1&&kX c lv b sc N q.2.2
 |.tu l,sc,N,e=>on (uZ e) λes=>kA c lv l sc N es
 |.li l,sc,N,e=>on (F6 e) λes=>kA c lv l sc N es
 |.dK,_,_,e=>on (u5 e) λq=>q.1.isEmpty&&q.2.isEmpty
 |.d1 a b,sc,N,e=>on (u5 e) λq=>on (l1 q.1) λk=>on k λk=>on (l1 q.2) λv=>kX c lv a sc N k&&kX c lv b sc N v
 |.ix a b,sc,N,e=>on (iD e) λq=>jf q.2&&kX c lv a sc N q.1&&kX c lv b sc N q.2
 |.dg a b,sc,N,e=>on (iD e) λq=>jf q.2&&kX c lv a sc N q.1&&kX c lv b sc N q.2
 |.g2 d k x,sc,N,e=>on (eM "get" e) λq=>on (l2 q.2) λa=>kX c lv d sc N q.1&&kX c lv k sc N a.1&&kX c lv x sc N a.2
 |.dT,_,_,e=>on (u5 e) λq=>q.1.isEmpty&&q.2.isEmpty
 |.iC d k x,sc,N,e=>on (eM "get" e) λq=>on (l2 q.2) λa=>kX c lv d sc N q.1&&kX c lv k sc N a.1&&kX c lv x sc N a.2
 |.fb f l,sc,N,e=>on (eN e) λq=>decide (q.1=Str.ofString f.nm)&&gl sc q.1&&c.bs.contains f.nm&&!q.2.isEmpty&&kA c lv l sc N q.2
 |.ca f l,sc,N,e=>on (eN e) λq=>on c.fs[f]? λi=>decide (q.1=i.nm)&&gl sc q.1&&!(q.1 == "__debug__")&&decide (i.lv≤lv)&&decide (q.2.length=i.ar)&&decide (i.io=none)&&!q.2.isEmpty&&kA c lv l sc N q.2
 |.cp i ix t e,sc,N,x=>on (tJ x) λq=>zc N (ns N q.2.1 ix) sc q.2.2.2.2.2.1 q.2.1 ix&&gk q.2.2.2.1&&kI c lv i false sc N q.2.2.2.1&&((q.2.2.2.2.1.isEmpty&&pY t)||on (l1 q.2.2.2.2.1) λy=>kT c lv t (rl sc q.2.2.2.2.2.1) (ns N q.2.1 ix) y)&&kX c lv e (rl sc q.2.2.2.2.2.1) (ns N q.2.1 ix) q.1
 |.c2 i ix t e,sc,N,x=>on (wO x) λr=>on (xG r.2.1.1) λu=>ED N (jh N u.1.1 u.2.1 ix) sc r.2.2.2.2.1 u.1.1 u.2.1 ix&&gk r.2.2.1&&kI c lv i true sc N r.2.2.1&&((r.2.2.2.1.isEmpty&&pY t)||on (l1 r.2.2.2.1) λy=>kT c lv t (rl sc r.2.2.2.2.1) (jh N u.1.1 u.2.1 ix) y)&&kX c lv e (rl sc r.2.2.2.2.1) (jh N u.1.1 u.2.1 ix) r.1
abbrev F8(c:Cf)(lv:Nat):Pp→Scope→U3→List (Option Expr)→U2→Bool
 |.n,_,_,ks,vs=>ks.isEmpty&&vs.isEmpty
 |.c a b l,sc,N,ks,vs=>on (fW ks) λk=>on k.1 λk1=>on (fW vs) λv=>kX c lv a sc N k1&&kX c lv b sc N v.1&&F8 c lv l sc N k.2 v.2
abbrev kA(c:Cf)(lv:Nat):A→Scope→U3→U2→Bool
 |.n,_,_,es=>es.isEmpty
 |.c a l,sc,N,es=>on (fW es) λq=>b8 q.1&&kX c lv a sc N q.1&&kA c lv l sc N q.2
abbrev kT(c:Cf)(lv:Nat):T→Scope→U3→Expr→Bool
 |.b x,sc,N,e=>FW e&&kX c lv x sc N e
 |.c o a b,sc,N,e=>on (pX e) λq=>decide (q.2.1=o.op)&&gk q.2.2&&kX c lv a sc N q.1&&kX c lv b sc N q.2.2
 |.d n a b,sc,N,e=>on (pX e) λq=>decide (q.2.1=nin n)&&gk q.2.2&&kX c lv a sc N q.1&&kX c lv b sc N q.2.2
 |.t n a b,sc,N,e=>on (pX e) λq=>decide (q.2.1=nin n)&&gk q.2.2&&kX c lv a sc N q.1&&kX c lv b sc N q.2.2
 |.h o p a b d,sc,N,e=>on (F3 e) λq=>decide (q.2.1=o.op)&&decide (q.2.2.1=p.op)&&!lastMarks [q.2.1,q.2.2.1] [q.2.2.2.1,q.2.2.2.2]&&kX c lv a sc N q.1&&kX c lv b sc N q.2.2.2.1&&kX c lv d sc N q.2.2.2.2
 |.an a b,sc,N,e=>on (oF .And e) λq=>kT c lv a sc N q.1&&kT c lv b sc N q.2
 |.or a b,sc,N,e=>on (oF .Or e) λq=>kT c lv a sc N q.1&&kT c lv b sc N q.2
 |.nt a,sc,N,e=>on (uY e) λq=>decide (q.1=.Not)&&kT c lv a sc N q.2
 |.y,_,_,_=>false
abbrev kP(c:Cf)(lv:Nat):P→Scope→U3→Option Expr→Bool
 |.n,_,_,o=>o.isNone
 |.s x,sc,N,o=>on o λe=>kX c lv x sc N e
abbrev kI(c:Cf)(lv:Nat):I→Bool→Scope→U3→Expr→Bool
 |.r1 l,_,sc,N,e=>on (eN e) λq=>decide (q.1 = "range")&&gl sc q.1&&c.bs.contains "range" && decide (q.2.length=1)&&kA c lv l sc N q.2
 |.r3 l,_,sc,N,e=>on (eN e) λq=>decide (q.1 = "range")&&gl sc q.1&&c.bs.contains "range" && decide (q.2.length=3)&&kA c lv l sc N q.2
 |.en l,tg,sc,N,e=>on (eN e) λq=>tg&&decide (q.1 = "enumerate")&&gl sc q.1&&c.bs.contains "enumerate" && decide (q.2.length=1)&&kA c lv l sc N q.2
 |.s x,_,sc,N,e=>kX c lv x sc N e
 |.t x,_,sc,N,e=>kX c lv x sc N e
 |.l x,_,sc,N,e=>kX c lv x sc N e
end
def F9(P:Program)(w:World)(K:Uw)(mg:Str→Option Value)(base:Heap)(i:Fi)(sp:Sp):Prop :=
 ∃f fd ps,iN P w K mg base iZ i.lv f fd ps sp∧mg i.nm=some (.ref f)∧PySem.W.keepIn K (.ref f)=true∧Binds K fd ps []∧∀n,i.df=some n→∃t,Binds K fd ps [pU n t]
def j6(P:Program)(w:World)(K:Uw)(mg:Str→Option Value)(base:Heap)(i:Fi):FT→Prop
 |.p F=>i.io=none∧F9 P w K mg base i (j5 K i.ar F)
 |.oo F=>i.io=some []∧F9 P w K mg base i (xx K i.ar F)
def GV(K:Uw)(mg:Str→Option Value)(va:List V)(gs:List (Str×Gv)):Prop:=∀(i:Nat) g,gs[i]?=some g→∃x u,va[i]?=some x∧mg g.1=some u∧RelV x u∧JT K (tC x) (jC g.2.d)
structure CE (c:Cf)(lv:Nat)(K:Uw)(t:List FT)(va:List V)(sc:Scope)(N:U3)(Z:Cx):Prop where
 k:Z.K=K
 sc:Z.env.scope=sc
 n:Z.N=N
 calm:Z.calm=true
 rm:cw lv Z.A
 bl:∀b,b∈c.bs→Z.mg (Str.ofString b)=none
 gv:GV K Z.mg va c.gs
 fs:∀(i:Nat) fi,c.fs[i]?=some fi→∃F,t[i]?=some F∧j6 Z.prog Z.w Z.K Z.mg Z.base fi F
section
variable {c:Cf}{lv:Nat}{K:Uw}{t:List FT}{va:List V}{sc:Scope}{N:U3}{Z:Cx}
theorem CE.aV(E:CE c lv K t va sc N Z){N':U3}{aj:Scope}{C:Addr}{s₂:Shared}{H₂:Hp}{fp:List Addr}{pn:Ux}:CE c lv K t va (rl sc aj) N' (Z.aV N' aj C s₂ H₂ fp pn) :=
 ⟨E.k,by rw[←E.sc];rfl,rfl,E.calm,E.rm,E.bl,E.gv,E.fs⟩
theorem CE.gl(E:CE c lv K t va sc N Z){x:Str}(h:gl sc x=true):Gl Z x:=by
 have:=Py h;rw[←E.sc]at this;exact this
theorem CE.mg(E:CE c lv K t va sc N Z){b:String}(h:c.bs.contains b=true):Z.mg (Str.ofString b)=none:=E.bl b (by simpa using h)
theorem iH:∀{es:U2}{env:Env},es.all b8=true→∀pos:Pos,((backTo pos (starEach es env)).any λx=>x.1)=false
 |[],_,_,_=>rfl
 |e::es,env,h,pos=>by
  rw[mR,k8]at h;rw[a6 h.1];show(false||(backTo pos (starEach es env)).any λx=>x.1)=false;rw[iH h.2,Bool.or_false]
def N7{n:String}(h:tys.contains n=true):bootBuiltins (Str.ofString n)=some (.type n)∧Str.ofString n ≠ "__name__" ∧ (Str.ofString n==("__debug__" : Str))=false:=by
 let h:n∈tys:=by simpa using h
 simp only[tys,List.mem_cons,List.not_mem_nil,or_false]at h;rcases h with rfl|rfl|rfl|rfl|rfl|rfl
 ·exact⟨PyProof.Rows.Boot.«bool»,by decide,by decide⟩
 ·exact⟨PyProof.Rows.Boot.«int»,by decide,by decide⟩
 ·exact⟨PyProof.Rows.Boot.«str»,by decide,by decide⟩
 ·exact⟨PyProof.Rows.Boot.«tuple»,by decide,by decide⟩
 ·exact⟨PyProof.Rows.Boot.«list»,by decide,by decide⟩
 ·exact⟨PyProof.Rows.Boot.«dict»,by decide,by decide⟩
def Fb.ok:∀f:Fb,∃r,(∀{sc:Scope}{N:U3} (Z:Cx),CE c lv K t va sc N Z→∀{p pos:Pos}{e:Expr}{es:U2}{ta:TA},C.gl sc (Str.ofString f.nm)=true→c.bs.contains f.nm=true→b8 e=true→es.all b8=true→PA Z (e::es) ta→PE Z (.Call (.Name (Str.ofString f.nm) p) (e::es) [] pos) (uB r ta))∧j4 K r f.g
 |.int=>⟨_,λ_ E _ _ _ _ _ hg hb h1 h2 ha=>@qE _ _ _ _ _ _ _ _ _ HK (E.gl hg) (E.mg hb) PyProof.Rows.Boot.«int» ha (by decide) (by decide) (a6 h1) (iH h2 _),KC⟩
 |.list=>⟨_,λ_ E _ _ _ _ _ hg hb h1 h2 ha=>@qE _ _ _ _ _ _ _ _ _ (G3 E.k) (E.gl hg) (E.mg hb) PyProof.Rows.Boot.«list» ha (by decide) (by decide) (a6 h1) (iH h2 _),Jg⟩
 |.len=>⟨_,λ_ E _ _ _ _ _ hg hb h1 h2 ha=>@AU _ _ _ _ _ _ _ _ _ (HX E.k) (E.gl hg) (E.mg hb) PyProof.Rows.Boot.«len» ha (by decide) (by decide) (a6 h1) (iH h2 _),Kz⟩
 |.uW=>⟨_,λ_ E _ _ _ _ _ hg hb h1 h2 ha=>@AU _ _ _ _ _ _ _ _ _ (Ic E.k) (E.gl hg) (E.mg hb) PyProof.Rows.Boot.«isinstance» ha (by decide) (by decide) (a6 h1) (iH h2 _),K2⟩
 |.sf=>⟨_,λ_ E _ _ _ _ _ hg hb h1 h2 ha=>@qE _ _ _ _ _ _ _ _ _ (Hz E.k E.calm) (E.gl hg) (E.mg hb) PyProof.Rows.Boot.«list» ha (by decide) (by decide) (a6 h1) (iH h2 _),Ij⟩
 |.tuple=>⟨_,λ_ E _ _ _ _ _ hg hb h1 h2 ha=>@qE _ _ _ _ _ _ _ _ _ (G8 E.k) (E.gl hg) (E.mg hb) PyProof.Rows.Boot.«tuple» ha (by decide) (by decide) (a6 h1) (iH h2 _),Im⟩
def C9{a:Expr}{env:Env}{bN:Pos}(h:b8 a=true):(((List.all (backTo bN (starEach [a] env)) λx=>!x.1)&&List.all (backToKw bN (keywordEach [] env)) λx=>Option.isSome x.1)&&decide ((List.length [a]+List.length ([]:List Keyword)+if List.isEmpty ([]:List Keyword)=true then 0 else 1)<30))=true:=by
 rw[a6 h];rfl
def wC{env:Env}{cp:Pos}:((backTo cp (starEach [] env)).any λx=>x.1)=false:=rfl
theorem EE:∀{l:A}{sc:Scope}{N:U3}{es:U2},kA c lv l sc N es=true→∀(e:Ev) (aF:List (M×D)),eA t l e=some aF→aF.length=es.length
 |.n,_,_,es,h=>by cases cL.mp h;exact KS
 |.c a l,sc,N,es,h=>by
  let hh:=aq h;clear h;let⟨⟨e,r⟩,q,h⟩:=hh;cases gF q;let h:(b8 e&&kX c lv a sc N e&&kA c lv l sc N r)=true:=h;rw[k8]at h;exact Jt (EE h.2)
end
section
variable {c:Cf}{lv:Nat}{K:Uw}{t:List FT}{va:List V}
def bR{a b:Bool}(h:(a&&b)=true):a=true∧b=true:=by simpa using h
def fX{a b d:Bool}(h:(a&&b&&d)=true):a=true∧b=true∧d=true:=by simpa[and_assoc]using h
def dF{a b d e:Bool}(h:(a&&b&&d&&e)=true):a=true∧b=true∧d=true∧e=true:=by simpa[and_assoc]using h
def j7{a b d e f:Bool}(h:(a&&b&&d&&e&&f)=true):a=true∧b=true∧d=true∧e=true∧f=true:=by simpa[and_assoc]using h
def QD{α:Type}{l:List α}(h:l.length=3):∃a b c,l=[a,b,c]:=by
 match l,h with
 |[a,b,c],_=>exact⟨a,b,c,rfl⟩
def lD{a b d e f g:Bool}(h:(a&&b&&d&&e&&f&&g)=true):a=true∧b=true∧d=true∧e=true∧f=true∧g=true:=by simpa[and_assoc]using h
def RT{a b d e f g i j:Bool}(h:(a&&b&&d&&e&&f&&g&&i&&j)=true):a=true∧b=true∧d=true∧e=true∧f=true∧g=true∧i=true∧j=true:=by simpa[and_assoc]using h
def nb{a:Bool}(h:(!a)=true):a=false:=by simpa using h
def D6{Z:Cx}{op:BoolOp}{vs:U2}{pos:Pos}{tt:TT}(h:PT Z (.BoolOp op vs pos) tt):PW Z (.BoolOp op vs pos) tt:=λ_=>h
def all1{a:Expr}{l:U2}(h:(a::l).all b8=true):b8 a=true∧l.all b8=true:=by
 rw[mR,k8]at h;exact h
def B1{α:Type}{l:List α}(h:(!l.isEmpty)=true):∃a r,l=a::r:=by
 cases l with
 |nil=>cases h
 |cons a r=>exact⟨a,r,rfl⟩
def EF{α:Type}{l:List α}(h:l.length=1):∃a,l=[a]:=List.length_eq_one_iff.mp h
mutual
theorem sX:∀(x:X) {sc:Scope}{N:U3}{e:Expr},kX c lv x sc N e=true→∃te,(∀Z,CE c lv K t va sc N Z→PE Z e te)∧JT K te (eX t x)
 |.v i,sc,N,e,h=>by
  let hh:=aq h;clear h;let⟨x,q,h⟩:=hh;let⟨p,rfl⟩:=lX q;let⟨h1,h2,h3,h4⟩:=dF h;let h1:=aP h1;let h2:=C6 h2;exact⟨_,λZ E=>@Ck _ _ _ _ (E.n▸h1) (E.sc▸h2) (nb h3) (nb h4),CP⟩
 |.ki i,sc,N,e,h=>by
  let hh:=aq h;clear h;let⟨k,q,h⟩:=hh;let⟨j,p,rfl⟩:=sg q;let hh:=aq h;clear h;let⟨y,q,h⟩:=hh;cases Pz q;cases aP h;exact⟨_,λZ E=>L1,kU rfl⟩
 |.ks i,sc,N,e,h=>by
  let hh:=aq h;clear h;let⟨k,q,h⟩:=hh;let⟨j,p,rfl⟩:=sg q;let hh:=aq h;clear h;let⟨y,q,h⟩:=hh;cases PB q;cases aP h;exact⟨_,λZ E=>L4,kU rfl⟩
 |.kb i,sc,N,e,h=>by
  let hh:=aq h;clear h;let⟨k,q,h⟩:=hh;let⟨j,p,rfl⟩:=sg q;let hh:=aq h;clear h;let⟨y,q,h⟩:=hh;cases PD q;cases aP h;exact⟨_,λZ E=>OB,kU rfl⟩
 |.kn,sc,N,e,h=>by
  let hh:=aq h;clear h;let⟨k,q,h⟩:=hh;let⟨j,p,rfl⟩:=sg q;cases PF h;exact⟨_,λZ E=>L3,kU rfl⟩
 |.ty n,sc,N,e,h=>by
  let hh:=aq h;clear h;let⟨x,q,h⟩:=hh;let⟨p,rfl⟩:=lX q;let⟨h1,h2,h3,h4⟩:=dF h;cases aP h1;let⟨q1,q2,q3⟩:=N7 h4;exact⟨_,λZ E=>@Ka _ _ (.ty n) _ _ (E.gl h2) (E.mg h3) q1 rfl q2 q3,kU rfl⟩
 |.bo o a b,sc,N,e,h=>by
  let hh:=aq h;clear h;let⟨⟨l,op,r⟩,q,h⟩:=hh;let⟨p,rfl⟩:=N1 q;let⟨h1,h2,h3⟩:=fX h;cases aP h1;let⟨ta,pa,ja⟩:=sX a h2;let⟨tb,pb,jb⟩:=sX b h3;let⟨r,o1,o2⟩:=o.ok (K:=K);exact⟨_,λZ E=>OJ (o1 Z E.k) (pa Z E) (pb Z E),rO o2 ja jb⟩
 |.co o a b,sc,N,e,h=>by
  let hh:=aq h;clear h;let⟨⟨l,op,r⟩,q,h⟩:=hh;let⟨p,rfl⟩:=rF q;let⟨h1,h0,h2,h3⟩:=dF h;cases aP h1;let⟨ta,pa,ja⟩:=sX a h2;let⟨tb,pb,jb⟩:=sX b h3;let⟨r,o1,o2⟩:=o.ok (K:=K);exact⟨_,λZ E=>Ki (o1 Z E.k E.rm.units) (pa Z E) (pb Z E) (lO h0),rO o2 ja jb⟩
 |.uo o a,sc,N,e,h=>by
  let hh:=aq h;clear h;let⟨⟨op,r⟩,q,h⟩:=hh;let⟨p,rfl⟩:=wz q;let⟨h1,h2⟩:=bR h;cases aP h1;let⟨ta,pa,ja⟩:=sX a h2;let⟨r,o1,o2⟩:=o.ok (K:=K);exact⟨_,λZ E=>OL (o1 Z) (pa Z E),O6 o2 ja⟩
 |.an a b,sc,N,e,h=>by
  let hh:=aq h;clear h;let⟨⟨x,y⟩,q,h⟩:=hh;let⟨m,rest,pos,rfl,w⟩:=rj q;let⟨h1,h2⟩:=bR h;let⟨ta,pa,ja⟩:=sX a h1;let⟨tb,pb,jb⟩:=sX b h2;refine⟨_,λZ E=>@L8 _ _ _ _ tb _ _ (pa Z E) ?_,MS ja jb⟩;rcases w with⟨rfl,rfl⟩|rfl
  ·exact @Cm _ _ _ _ _ (pb Z E)
  ·exact pb Z E
 |.or a b,sc,N,e,h=>by
  let hh:=aq h;clear h;let⟨⟨x,y⟩,q,h⟩:=hh;let⟨m,rest,pos,rfl,w⟩:=rj q;let⟨h1,h2⟩:=bR h;let⟨ta,pa,ja⟩:=sX a h1;let⟨tb,pb,jb⟩:=sX b h2;refine⟨_,λZ E=>@OG _ _ _ _ tb _ _ (pa Z E) ?_,Pg ja jb⟩;rcases w with⟨rfl,rfl⟩|rfl
  ·exact @Cm _ _ _ _ _ (pb Z E)
  ·exact pb Z E
 |.nt a,sc,N,e,h=>by
  let hh:=aq h;clear h;let⟨⟨op,r⟩,q,h⟩:=hh;let⟨p,rfl⟩:=wz q;let⟨h1,h2⟩:=bR h;cases aP h1;let⟨ta,pa,ja⟩:=sX a h2;exact⟨_,λZ E=>L9 (pa Z E),MT ja⟩
 |.ie t' a b,sc,N,e,h=>by
  let hh:=aq h;clear h;let⟨⟨x,l,r⟩,q,h⟩:=hh;let⟨p,rfl⟩:=N4 q;let⟨h1,h2,h3⟩:=fX h;let⟨tq,pq,jq⟩:=sT t' h1;let⟨ta,pa,ja⟩:=sX a h2;let⟨tb,pb,jb⟩:=sX b h3;exact⟨_,λZ E=>IK (pq Z E) (pa Z E) (pb Z E),MX jq ja jb⟩
 |.tu l,sc,N,e,h=>by
  let hh:=aq h;clear h;let⟨es,q,h⟩:=hh;let⟨k,p,rfl⟩:=wA q;let⟨ta,pa,ja⟩:=sA l h;exact⟨_,λZ E=>Ms (pa Z E),MZ ja⟩
 |.li l,sc,N,e,h=>by
  let hh:=aq h;clear h;let⟨es,q,h⟩:=hh;let⟨p,rfl⟩:=N5 q;let⟨ta,pa,ja⟩:=sA l h;exact⟨_,λZ E=>wc (pa Z E),MY ja⟩
 |.dK,sc,N,e,h=>by
  let hh:=aq h;clear h;let⟨⟨ks,vs⟩,q,h⟩:=hh;let⟨p,rfl⟩:=wB q;let⟨h1,h2⟩:=bR h;cases cL.mp h1;cases cL.mp h2;exact⟨_,λ_ _=>Ja,Jx⟩
 |.d1 a b,sc,N,e,h=>by
  let hh:=aq h;clear h;let⟨⟨ks,vs⟩,q,h⟩:=hh;let⟨p,rfl⟩:=wB q;let hh:=aq h;clear h;let⟨k,q1,h⟩:=hh;cases dI q1;let hh:=aq h;clear h;let⟨k',rfl,h⟩:=hh;let hh:=aq h;clear h;let⟨v,q2,h⟩:=hh;cases dI q2;let⟨h1,h2⟩:=bR h;let⟨ta,pa,ja⟩:=sX a h1;let⟨tb,pb,jb⟩:=sX b h2;exact⟨_,λZ E=>Ku (AX (pa Z E) (pb Z E) Bv) rfl rfl (List.cons_ne_nil _ _) (by show 1≤15;decide),Lc ja jb⟩
 |.ix a b,sc,N,e,h=>by
  let hh:=aq h;clear h;let⟨⟨l,r⟩,q,h⟩:=hh;let⟨p,rfl⟩:=hG q;let⟨h1,h2,h3⟩:=fX h;let⟨ta,pa,ja⟩:=sX a h2;let⟨tb,pb,jb⟩:=sX b h3;exact⟨_,λZ E=>n6 (nL E.k) (pa Z E) (pb Z E) (bL h1),rO Pb ja jb⟩
 |.dg a b,sc,N,e,h=>by
  let hh:=aq h;clear h;let⟨⟨l,r⟩,q,h⟩:=hh;let⟨p,rfl⟩:=hG q;let⟨h1,h2,h3⟩:=fX h;let⟨ta,pa,ja⟩:=sX a h2;let⟨tb,pb,jb⟩:=sX b h3;exact⟨_,λZ E=>Ks (hU E.rm) (pa Z E) (pb Z E) (Lk h1),La ja jb⟩
 |.g2 d k x,sc,N,e,h=>by
  let hh:=aq h;clear h;let⟨⟨o,as⟩,q,h⟩:=hh;let⟨ap,cp,rfl,h2,h3,h4⟩:=jI q;let hh:=aq h;clear h;let⟨a,q1,h⟩:=hh;cases sj q1;let⟨h4,fj⟩:=all1 h4;let fj:=(all1 fj).1;let⟨h5,h6,h7⟩:=fX h;let⟨td,pd,jd⟩:=sX d h5;let⟨tk,pk,jk⟩:=sX k h6;let⟨tx,px,jx⟩:=sX x h7;exact⟨_,λZ E=>Jc (hU E.rm) (pd Z E) (pk Z E) (px Z E) ⟨lW h2,by rw[a6 h4,a6 fj];rfl,h3,by rw[a6 h4,a6 fj];rfl⟩,JC jd jk jx⟩
 |.dT,sc,N,e,h=>by
  let hh:=aq h;clear h;let⟨⟨ks,vs⟩,q,h⟩:=hh;let⟨p,rfl⟩:=wB q;let⟨h1,h2⟩:=bR h;cases cL.mp h1;cases cL.mp h2;exact⟨_,λ_ _=>Jb,Lg⟩
 |.iC d k x,sc,N,e,h=>by
  let hh:=aq h;clear h;let⟨⟨o,as⟩,q,h⟩:=hh;let⟨ap,cp,rfl,h2,h3,h4⟩:=jI q;let hh:=aq h;clear h;let⟨a,q1,h⟩:=hh;cases sj q1;let⟨h4,fj⟩:=all1 h4;let fj:=(all1 fj).1;let⟨h5,h6,h7⟩:=fX h;let⟨td,pd,jd⟩:=sX d h5;let⟨tk,pk,jk⟩:=sX k h6;let⟨tx,px,jx⟩:=sX x h7;exact⟨_,λZ E=>JD (hU E.rm) (pd Z E) (pk Z E) (px Z E) ⟨lW h2,by rw[a6 h4,a6 fj];rfl,h3,by rw[a6 h4,a6 fj];rfl⟩,JF jd jk jx⟩
 |.fb f l,sc,N,e,h=>by
  let hh:=aq h;clear h;let⟨⟨x,as⟩,q,h⟩:=hh;let⟨p,cp,rfl,h4⟩:=kK q;let⟨h1,h2,h3,h0,h6⟩:=j7 h;cases aP h1;let⟨a,r,rfl⟩:=B1 h0;let⟨h4,h5⟩:=all1 h4;let⟨ta,pa,ja⟩:=sA l h6;let⟨r,q1,q2⟩:=Fb.ok (c:=c) (lv:=lv) (t:=t) (va:=va) (K:=K) f;exact⟨_,λZ E=>q1 Z E h2 h3 h4 h5 (pa Z E),Ph q2 ja⟩
 |.ca f l,sc,N,e,h=>by
  let hh:=aq h;clear h;let⟨⟨x,as⟩,q,h⟩:=hh;let⟨p,cp,rfl,nh⟩:=kK q;let hh:=aq h;clear h;let⟨i,hf,h⟩:=hh;let⟨h1,h2,h3,h4,h5,zh,h0,h8⟩:=RT h;let⟨a,r,rfl⟩:=B1 h0;let⟨h6,h7⟩:=all1 nh;let h1:=aP h1;let⟨ta,pa,ja⟩:=sA l h8;let hl:=EE (t:=t) h8;rw[show(a::r).length=i.ar from aP h5]at hl;refine⟨nZ (j5 K i.ar (FT.f t[f]?)) [] E0 ta,λZ E=>?_,BI ja hl⟩;let⟨F,hF,q⟩:=E.fs f i hf;cases F with
  |oo F=>rw[j6,aP zh]at q;cases q.1
  |p F =>
   let⟨_,a,fd,ps,k1,k2,k3,k4⟩:=q;rw[←h1]at k2;rw[hF,←E.k];exact @vK _ _ _ _ _ _ _ _ _ _ _ _ _ _ _ _ k1 (E.rm.mono (aP h4)) (E.gl h2) k2 k3 k4.1 .nil wJ (pa Z E) (nb h3) (a6 h6) (iH h7 _)
 |.cp i ix t' d,sc,N,e,h=>by
  let hh:=aq h;clear h;let⟨⟨el,x,px,it,ifs,aj,ep⟩,q,h⟩:=hh;cases vX q;let⟨h1,h2,h3,h4,h5⟩:=j7 h;let h1:=wy h1;let⟨ti,pi,ji⟩:=sI i h3;let⟨te,pe,je⟩:=sX d h5;let h4:(ifs.isEmpty=true∧pY t'=true)∨(on (l1 ifs) λy=>kT c lv t' (rl sc aj) (ns N x ix) y)=true:=by simpa using h4
  rcases h4 with⟨w1,w2⟩|h4
  ·cases cL.mp w1;cases t'<;>first|exact absurd w2 aL|skip
   exact⟨_,λZ E=>@q8 _ (ns N x ix) _ _ ix _ _ _ _ _ _ _ _ (by rw[E.n,E.sc];exact h1) E.calm (pi Z (.Name x px) E (λz=>absurd z aL)) (λC s₂ H₂ fp pn=>nK) (λC s₂ H₂ fp pn=>pe _ E.aV) (g6 h2),rg ji vR je⟩
  ·let hh:=aq h4;clear h4;let⟨y,q,h4⟩:=hh;cases dI q;let⟨tq,pq,jq⟩:=sT t' h4;exact⟨_,λZ E=>@q8 _ (ns N x ix) _ _ ix _ _ _ _ _ _ _ _ (by rw[E.n,E.sc];exact h1) E.calm (pi Z (.Name x px) E (λz=>absurd z aL)) (λC s₂ H₂ fp pn=>vO (pq _ E.aV)) (λC s₂ H₂ fp pn=>pe _ E.aV) (g6 h2),rg ji jq je⟩
 |.c2 i ix t' d,sc,N,e,h=>by
  let hh:=aq h;clear h;let⟨⟨el,⟨es,k,pt⟩,it,ifs,aj,ep⟩,q,h⟩:=hh;cases JQ q;let hh:=aq h;clear h;let⟨⟨⟨x1,Ga⟩,x2,Gb⟩,q,h⟩:=hh;cases Lp q;let⟨h3,hn,h4,h5,h6⟩:=j7 h;let⟨ok,nd,⟨g1,g2⟩,fW,RW⟩:=Ln h3;let⟨ti,pi,ji⟩:=sI i h4;let⟨te,pe,je⟩:=sX d h6;let h5:(ifs.isEmpty=true∧pY t'=true)∨(on (l1 ifs) λy=>kT c lv t' (rl sc aj) (jh N x1 x2 ix) y)=true:=by simpa using h5
  let pg:∀Z,CE c lv K t va sc N Z→∀C s₂ H₂ fp pn,PG (Z.aV (jh N x1 x2 ix) aj C s₂ H₂ fp pn) (.Tuple [.Name x1 Ga,.Name x2 Gb] k pt) (iC K):=λZ E C s₂ H₂ fp pn=>by
   let e1:(Z.aV (jh N x1 x2 ix) aj C s₂ H₂ fp pn).env.scope.names.lookup x1=some .local:=lookup_relabel_local fW;let e2:(Z.aV (jh N x1 x2 ix) aj C s₂ H₂ fp pn).env.scope.names.lookup x2=some .local:=lookup_relabel_local RW;have:=Cp (X:=Z.aV (jh N x1 x2 ix) aj C s₂ H₂ fp pn) (pos:=pt) (k:=k) (n:=2) E.calm (vC (qX (pos:=Ga) (i:=0) nd g1 (.inl e1) (.inr e1)) (vC (qX (pos:=Gb) (i:=1) nd g2 (.inl e2) (.inr e2)) Bn));rw[show(Z.aV (jh N x1 x2 ix) aj C s₂ H₂ fp pn).K=K from E.k]at this;exact this
  rcases h5 with⟨w1,w2⟩|h5
  ·cases cL.mp w1;cases t'<;>first|exact absurd w2 aL|skip
   exact⟨_,λZ E=>AY (by rw[E.n,E.sc];exact ok) (pg Z E) E.calm (pi Z _ E (λ_=>rfl)) (λC s₂ H₂ fp pn=>nK) (λC s₂ H₂ fp pn=>pe _ E.aV) (g6 hn),A8 ji vR je⟩
  ·let hh:=aq h5;clear h5;let⟨y',q,h5⟩:=hh;cases dI q;let⟨tq,pq,jq⟩:=sT t' h5;exact⟨_,λZ E=>AY (by rw[E.n,E.sc];exact ok) (pg Z E) E.calm (pi Z _ E (λ_=>rfl)) (λC s₂ H₂ fp pn=>vO (pq _ E.aV)) (λC s₂ H₂ fp pn=>pe _ E.aV) (g6 hn),A8 ji jq je⟩
theorem RX:∀(l:Pp) {sc:Scope}{N:U3}{ks:List (Option Expr)}{vs:U2},F8 c lv l sc N ks vs=true→∃ts,(∀Z pos,CE c lv K t va sc N Z→pA Z pos ks vs ts∧ks.all (·.isSome)=true∧ks.length=vs.length)∧uS K ts (FV t l)
 |.n,_,_,ks,vs,h=>by
  let⟨h1,h2⟩:=bR h;cases cL.mp h1;cases cL.mp h2;exact⟨_,λ_ _ _=>⟨Bv,rfl,rfl⟩,.nil⟩
 |.c a b l,sc,N,ks,vs,h=>by
  let hh:=aq h;clear h;let⟨⟨k,ks⟩,q,h⟩:=hh;cases gF q;let hh:=aq h;clear h;let⟨k1,q,h⟩:=hh;let q:k=some k1:=q;subst q;let hh:=aq h;clear h;let⟨⟨v,vs⟩,q,h⟩:=hh;cases gF q;let⟨h1,h2,h3⟩:=fX h;let⟨ta,pa,ja⟩:=sX a h1;let⟨tb,pb,jb⟩:=sX b h2;let⟨tl,pl,jl⟩:=RX l h3;exact⟨_,λZ pos E=>(let ⟨x,y,z⟩:=pl Z pos E;⟨AX (pa Z E) (pb Z E) x,y,by rw[gq,gq,z]⟩),.cons ja jb jl⟩
theorem sA:∀(l:A) {sc:Scope}{N:U3}{es:U2},kA c lv l sc N es=true→∃ta,(∀Z,CE c lv K t va sc N Z→PA Z es ta)∧gZ K ta (eA t l)
 |.n,_,_,es,h=>by
  cases cL.mp h;exact⟨_,λ_ _=>jz,BD⟩
 |.c a l,sc,N,es,h=>by
  let hh:=aq h;clear h;let⟨⟨e,r⟩,q,h⟩:=hh;cases gF q;let⟨h0,h1,h2⟩:=fX h;let⟨ta,pa,ja⟩:=sX a h1;let⟨tl,pl,jl⟩:=sA l h2;exact⟨_,λZ E=>@ju _ _ _ _ _ (pa Z E) (pl Z E) (a6 h0),vE ja jl⟩
theorem sT:∀(q:T) {sc:Scope}{N:U3}{e:Expr},kT c lv q sc N e=true→∃tt,(∀Z,CE c lv K t va sc N Z→PT Z e tt)∧cE K tt (eT t q)
 |.b x,sc,N,e,h=>by
  let⟨h1,h2⟩:=bR h;let⟨ta,pa,ja⟩:=sX x h2;exact⟨_,λZ E=>@HY _ K _ _ E.k (pa Z E) (N0 h1),HZ ja⟩
 |.c o a b,sc,N,e,h=>by
  let hh:=aq h;clear h;let⟨⟨l,op,r⟩,q,h⟩:=hh;let⟨p,rfl⟩:=rF q;let⟨h1,h0,h2,h3⟩:=dF h;cases aP h1;let⟨ta,pa,ja⟩:=sX a h2;let⟨tb,pb,jb⟩:=sX b h3;let⟨r,o1,o2⟩:=o.ok (K:=K);exact⟨_,λZ E=>Kj (o1 Z E.k E.rm.units) (pa Z E) (pb Z E) (lO h0),A2 (rO o2 ja jb)⟩
 |.d n a b,sc,N,e,h=>by
  let hh:=aq h;clear h;let⟨⟨l,op,r⟩,q,h⟩:=hh;let⟨p,rfl⟩:=rF q;let⟨h1,h0,h2,h3⟩:=dF h;cases aP h1;let⟨ta,pa,ja⟩:=sX a h2;let⟨tb,pb,jb⟩:=sX b h3;cases n with
  |false=>exact⟨_,λZ E=>@rn _ _ _ _ _ _ (Cw (hU E.rm) (pa Z E) (pb Z E)) (lO h0),oa (NB ja jb)⟩
  |true=>exact⟨_,λZ E=>@rn _ _ _ _ _ _ (Ay (hU E.rm) (pa Z E) (pb Z E)) (lO h0),oa (Ii ja jb)⟩
 |.t n a b,sc,N,e,h=>by
  let hh:=aq h;clear h;let⟨⟨l,op,r⟩,q,h⟩:=hh;let⟨p,rfl⟩:=rF q;let⟨h1,h0,h2,h3⟩:=dF h;cases aP h1;let⟨ta,pa,ja⟩:=sX a h2;let⟨tb,pb,jb⟩:=sX b h3;cases n with
  |false=>exact⟨_,λZ E=>@rn _ _ _ _ _ _ (Cw (hU E.rm) (pa Z E) (pb Z E)) (lO h0),oa (NQ ja jb)⟩
  |true=>exact⟨_,λZ E=>@rn _ _ _ _ _ _ (Ay (hU E.rm) (pa Z E) (pb Z E)) (lO h0),oa (Il ja jb)⟩
 |.h o p a b d,sc,N,e,h=>by
  let hh:=aq h;clear h;let⟨⟨l,op,op',m,r⟩,q,h⟩:=hh;let⟨p',rfl⟩:=N2 q;let⟨h1,h2,h3,h4,h5,h6⟩:=lD h;cases aP h1;cases aP h2;let⟨ta,pa,ja⟩:=sX a h4;let⟨tb,pb,jb⟩:=sX b h5;let⟨td,pd,jd⟩:=sX d h6;let⟨r,o1,o2⟩:=o.ok (K:=K);let⟨r',RZ,R0⟩:=p.ok (K:=K);exact⟨_,λZ E=>@IV _ _ _ _ _ _ _ _ _ _ _ _ (o1 Z E.k E.rm.units) (RZ Z E.k E.rm.units) (pa Z E) (pb Z E) (pd Z E) (nb h3),A2 (Jq o2 R0 ja jb jd)⟩
 |.an a b,sc,N,e,h=>by
  let hh:=aq h;clear h;let⟨⟨x,y⟩,q,h⟩:=hh;let⟨m,rest,pos,rfl,w⟩:=rj q;let⟨h1,h2⟩:=bR h;let⟨ta,pa,ja⟩:=sT a h1;let⟨tb,pb,jb⟩:=sT b h2;refine⟨_,λZ E=>@PW.pt _ _ _ (@L6 _ _ _ _ _ tb _ (pa Z E) ?_),Kx ja jb⟩;rcases w with⟨rfl,rfl⟩|rfl
  ·exact @Kc _ _ _ _ (pb Z E)
  ·exact D6 (pb Z E)
 |.or a b,sc,N,e,h=>by
  let hh:=aq h;clear h;let⟨⟨x,y⟩,q,h⟩:=hh;let⟨m,rest,pos,rfl,w⟩:=rj q;let⟨h1,h2⟩:=bR h;let⟨ta,pa,ja⟩:=sT a h1;let⟨tb,pb,jb⟩:=sT b h2;refine⟨_,λZ E=>@PW.pt _ _ _ (@OD _ _ _ _ _ tb _ (pa Z E) ?_),MV ja jb⟩;rcases w with⟨rfl,rfl⟩|rfl
  ·exact @L5 _ _ _ _ (pb Z E)
  ·exact D6 (pb Z E)
 |.nt a,sc,N,e,h=>by
  let hh:=aq h;clear h;let⟨⟨op,r⟩,q,h⟩:=hh;let⟨p,rfl⟩:=wz q;let⟨h1,h2⟩:=bR h;cases aP h1;let⟨ta,pa,ja⟩:=sT a h2;exact⟨_,λZ E=>L7 (pa Z E),Ky ja⟩
 |.y,sc,N,e,h=>absurd h aL
theorem sP:∀(l:P) {sc:Scope}{N:U3}{e:Option Expr},kP c lv l sc N e=true→∃ta,(∀Z,CE c lv K t va sc N Z→PO Z e ta)∧yO K ta (eP t l)
 |.n,_,_,o,h=>by
  cases o with
  |some _=>cases h
  |none=>exact⟨_,λ_ _=>Kl,Jh⟩
 |.s x,sc,N,o,h=>by
  let hh:=aq h;clear h;let⟨e,rfl,h⟩:=hh;let⟨ta,pa,ja⟩:=sX x h;exact⟨_,λZ E=>Km (pa Z E),Ji ja⟩
theorem sI:∀(i:I) {tg:Bool}{sc:Scope}{N:U3}{e:Expr},kI c lv i tg sc N e=true→∃ti,(∀Z g,CE c lv K t va sc N Z→(tg=true→D5 g=true)→PI Z g e ti)∧JI K ti (eI t i)
 |.r1 l,tg,sc,N,e,h=>by
  let hh:=aq h;clear h;let⟨⟨x,as⟩,q,h⟩:=hh;let⟨p,cp,rfl,h4⟩:=kK q;let⟨h1,h2,h3,h0,h5⟩:=j7 h;cases aP h1;let⟨a,rfl⟩:=EF (aP h0);let⟨ta,pa,ja⟩:=sA l h5;exact⟨_,λZ g E _=>@HG _ _ _ _ _ _ (E.gl h2) (E.mg h3) (pa Z E) (a6 (all1 h4).1),KJ ja⟩
 |.r3 l,tg,sc,N,e,h=>by
  let hh:=aq h;clear h;let⟨⟨x,as⟩,q,h⟩:=hh;let⟨p,cp,rfl,h4⟩:=kK q;let⟨h1,h2,h3,h0,h5⟩:=j7 h;cases aP h1;let⟨a,b,z,rfl⟩:=QD (aP h0);let⟨h4,fj⟩:=all1 h4;let⟨fj,tK⟩:=all1 fj;let tK:=(all1 tK).1;let⟨ta,pa,ja⟩:=sA l h5;exact⟨_,λZ g E _=>@Ir _ _ _ _ _ _ _ _ (E.gl h2) (E.mg h3) (pa Z E) (by rw[a6 h4,a6 fj,a6 tK];rfl) (by rw[a6 fj,a6 tK];rfl),Lj ja⟩
 |.en l,tg,sc,N,e,h=>by
  let hh:=aq h;clear h;let⟨⟨x,as⟩,q,h⟩:=hh;let⟨p,cp,rfl,h4⟩:=kK q;let⟨h0,h1,h2,h3,h6,h5⟩:=lD h;cases aP h1;let⟨a,rfl⟩:=EF (aP h6);let⟨ta,pa,ja⟩:=sA l h5;refine⟨_,λZ g E hg=>?_,K6 ja⟩;let hg:=hg h0;cases g<;>first|exact absurd hg aL|skip
  exact @Jv _ K _ _ _ _ _ _ _ E.k (E.gl h2) (E.mg h3) (pa Z E) (a6 (all1 h4).1)
 |.s x,tg,sc,N,e,h=>by
  let⟨ta,pa,ja⟩:=sX x (e:=e) h;exact⟨_,λZ g E _=>MH (pa Z E),Nx ja⟩
 |.t x,tg,sc,N,e,h=>by
  let⟨ta,pa,ja⟩:=sX x (e:=e) h;exact⟨_,λZ g E _=>K7 E.k (pa Z E),M8 ja⟩
 |.l x,tg,sc,N,e,h=>by
  let⟨ta,pa,ja⟩:=sX x (e:=e) h;exact⟨_,λZ g E _=>A1 E.k (pa Z E),BG ja⟩
end
end
abbrev loc(sc:Scope)(x:Str):Bool:=match sc.names.lookup x with
 |some .local=>true
 |some .cell=>true
 |_=>false
def Dc{sc:Scope}{x:Str}(h:loc sc x=true):L2.Loc sc x:=by
 unfold loc at h;unfold L2.Loc;split at h<;>first|exact absurd h aL|simp_all
mutual
abbrev kG:G→Scope→U3→Expr→Bool
 |.n i,sc,N,e=>on (ng e) λx=>decide (N[i]?=some x)&&loc sc x
 |.t k l,sc,N,e=>on (uZ e) λes=>decide (es.length=k)&&es.all b8&&u6 l sc N es
 |.l k l,sc,N,e=>on (uZ e) λes=>decide (es.length=k)&&es.all b8&&u6 l sc N es
abbrev u6:Gs→Scope→U3→U2→Bool
 |.n,_,_,es=>es.isEmpty
 |.c g l,sc,N,es=>on (fW es) λq=>b8 q.1&&kG g sc N q.1&&u6 l sc N q.2
end
abbrev xH:Expr→Bool
 |.List [] _=>true
 |_=>false
def Lr{e:Expr}(h:xH e=true):∃p,e=.List [] p:=by
 unfold xH at h;split at h
 ·exact⟨_,rfl⟩
 ·cases h
abbrev lE:Stmt→Option (Expr×Expr×Pos)
 |.Assign [tg] e pos=>some (tg,e,pos)
 |_=>none
def pZ(st:Stmt):Option (Str×Expr):=(lE st).bind λq=>(ng q.1).map λx=>(x,q.2.1)
abbrev p5:Stmt→Option Expr
 |.Expr e _=>some e
 |_=>none
abbrev zi:Stmt→Option (Option Expr)
 |.Return e _=>some e
 |_=>none
abbrev zj:Stmt→Option (Expr×List Stmt×List Stmt)
 |.If e a b _=>some (e,a,b)
 |_=>none
abbrev u9:Stmt→Option (Expr×Expr×List Stmt)
 |.For tg it b [] _=>some (tg,it,b)
 |_=>none
abbrev zk:Stmt→Option (Expr×List Stmt)
 |.While e b [] _=>some (e,b)
 |_=>none
def nV{st:Stmt}{q:Expr×Expr×Pos}(h:lE st=some q):st=.Assign [q.1] q.2.1 q.2.2:=by
 unfold lE at h;split at h
 ·cases h;rfl
 ·cases h
def rG{st:Stmt}{y:Str}{e:Expr}(h:pZ st=some (y,e)):∃p pos,st=.Assign [.Name y p] e pos:=by
 let⟨q,h1,h⟩:=gC h;let⟨x,h2,h⟩:=rE h;cases h;let⟨p,e⟩:=lX h2;exact⟨p,q.2.2,by rw[nV h1,e]⟩
def nW{st:Stmt}{e:Expr}(h:p5 st=some e):∃p,st=.Expr e p:=by
 cases st<;>cases h;exact⟨_,rfl⟩
def wD{st:Stmt}{e:Option Expr}(h:zi st=some e):∃p,st=.Return e p:=by
 cases st<;>cases h;exact⟨_,rfl⟩
def Dg{st:Stmt}{e:Expr}{a b:List Stmt}(h:zj st=some (e,a,b)):∃p,st=.If e a b p:=by
 cases st<;>cases h;exact⟨_,rfl⟩
def Dh{st:Stmt}{a b:Expr}{l:List Stmt}(h:u9 st=some (a,b,l)):∃p,st=.For a b l [] p:=by
 unfold u9 at h;split at h
 ·cases h;exact⟨_,rfl⟩
 ·cases h
def N8{st:Stmt}{e:Expr}{l:List Stmt}(h:zk st=some (e,l)):∃p,st=.While e l [] p:=by
 unfold zk at h;split at h
 ·cases h;exact⟨_,rfl⟩
 ·cases h
def kL(c:Cf)(lv:Nat):L→Scope→U3→Stmt→Bool
 |.rt x,sc,N,st=>on (zi st) λo=>on o λe=>kX c lv x sc N e
 |.nv,_,_,_=>true
 |.st i x,sc,N,st=>on (pZ st) λs=>decide (N[i]?=some s.1)&&loc sc s.1&&kJ s.2&&kX c lv x sc N s.2
 |.sc j i ix q e,sc,N,st=>on (pZ st) λs=>decide (N[j]?=some s.1)&&loc sc s.1&&kX c lv (.cp i ix q e) sc N s.2
 |.si k i x,sc,N,st=>on (lE st) λs=>on (iD s.1) λu=>jf u.2&&kJ s.2.1&&kX c lv (.v k) sc N u.1&&kX c lv i sc N u.2&&kX c lv x sc N s.2.1
 |.dp k i x,sc,N,st=>on (lE st) λs=>on (iD s.1) λu=>kJ s.2.1&&kX c lv (.v k) sc N u.1&&kX c lv i sc N u.2&&kX c lv x sc N s.2.1
 |.ap k x,sc,N,st=>on (p5 st) λe=>on (eM "append" e) λq=>on (l1 q.2) λa=>kX c lv (.v k) sc N q.1&&kX c lv x sc N a
 |.na k i x,sc,N,st=>on (p5 st) λe=>on (eM "append" e) λq=>on (l1 q.2) λa=>on (iD q.1) λu=>jf u.2&&kX c lv (.v k) sc N u.1&&kX c lv i sc N u.2&&kX c lv x sc N a
 |.ne i it,sc,N,st=>on (pZ st) λs=>on (tJ s.2) λq=>decide (N[i]?=some s.1)&&loc sc s.1&&q.2.2.2.2.1.isEmpty&&xH q.1&&zc N (ns N q.2.1 []) sc q.2.2.2.2.2.1 q.2.1 []&&(gk q.2.2.2.1&&kI c lv it false sc N q.2.2.2.1)
 |.tp k i x,sc,N,st=>on (lE st) λs=>on (iD s.1) λu=>kJ s.2.1&&kX c lv (.v k) sc N u.1&&kX c lv i sc N u.2&&kX c lv x sc N s.2.1
 |.ud k x,sc,N,st=>on (p5 st) λe=>on (eM "update" e) λq=>on (l1 q.2) λa=>kX c lv (.v k) sc N q.1&&kX c lv x sc N a
 |.rU f x,sc,N,st=>on (zi st) λo=>on o λe=>on (eN e) λq=>on c.fs[f]? λi=>on (l1 q.2) λa=>(decide (q.1=i.nm)&&gl sc q.1&&!(q.1 == "__debug__")&&decide (i.lv≤lv)&&decide (1=i.ar)&&decide (i.io=some []))&&kX c lv x sc N a
def Gd(c:Cf)(lv:Nat)(i:Nat):Ch→Scope→U3→Stmt→Bool
 |.a k x,sc,N,st=>kL c lv (.na i k x) sc N st
 |.c k,sc,N,st=>on (p5 st) λe=>on (eM "clear" e) λq=>on (iD q.1) λu=>q.2.isEmpty&&jf u.2&&kX c lv (.v i) sc N u.1&&kX c lv k sc N u.2
 |.d k y x,sc,N,st=>on (lE st) λs=>on (iD s.1) λu=>on (iD u.1) λv=>kJ s.2.1&&jf v.2&&kX c lv (.v i) sc N v.1&&kX c lv k sc N v.2&&kX c lv y sc N u.2&&kX c lv x sc N s.2.1
def tL(c:Cf)(lv:Nat)(i:Nat):List Ch→Scope→U3→List Stmt→Option (List Stmt)
 |[],_,_,ss=>some ss
 |x::l,sc,N,st::ss=>if Gd c lv i x sc N st=true then tL c lv i l sc N ss else none
 |_,_,_,_=>none
mutual
abbrev kS(c:Cf)(lv:Nat):S→Scope→U3→Stmt→Bool
 |.l x,sc,N,st=>kL c lv x sc N st
 |.ie t a b,sc,N,st=>on (zj st) λq=>kT c lv t sc N q.1&&kB c lv a sc N q.2.1&&kB c lv b sc N q.2.2
 |.fo i g b,sc,N,st=>on (u9 st) λq=>kI c lv i (D5 q.1) sc N q.2.1&&gk q.2.1&&kG g sc N q.1&&kB c lv b sc N q.2.2
 |.wh t b,sc,N,st=>on (zk st) λq=>kT c lv t sc N q.1&&kB c lv b sc N q.2
 |.fz _ s,sc,N,st=>kS c lv s sc N st
 |.fp i k f g b,sc,N,st=>on (u9 st) λq=>on (eN q.2.1) λu=>on c.fs[f]? λw=>on (fW u.2) λa=>on (l1 a.2) λp=>on (eM "pop" p) λm=>(decide (u.1=w.nm)&&gl sc u.1&&!(u.1 == "__debug__")&&decide (w.lv≤lv)&&decide (w.ar=2)&&decide (w.io=none))&&m.2.isEmpty&&kX c lv (.v i) sc N a.1&&kX c lv (.v k) sc N m.1&&gk q.2.1&&kG g sc N q.1&&kB c lv b sc N q.2.2
abbrev kB(c:Cf)(lv:Nat):B→Scope→U3→List Stmt→Bool
 |.n,_,_,ss=>ss.isEmpty
 |.o s,sc,N,ss=>on (l1 ss) λst=>kS c lv s sc N st
 |.c s b,sc,N,ss=>on (fW ss) λq=>kS c lv s sc N q.1&&kB c lv b sc N q.2
 |.u i x q r cs b,sc,N,ss=>on (fW ss) λs=>on (fW s.2) λz=>on (pZ s.1) λw=>on (zj z.1) λg=>on (l1 g.2.1) λst=>on (tL c lv i cs sc N z.2) λr'=>(decide (N[i]?=some w.1)&&loc sc w.1&&kJ w.2&&kX c lv x sc N w.2)&&kT c lv q sc N g.1&&kL c lv (.rt r) sc N st&&g.2.2.isEmpty&&kB c lv b sc N r'
end
structure CS (c:Cf)(lv:Nat)(K:Uw)(t:List FT)(va:List V)(sc:Scope)(N:U3)(Z:Cx):Prop where
 e:CE c lv K t va sc N Z
 nd:N.Nodup
 fn:∀x,Z.fn x=true
 po:PassesOwn (model Z.prog Z.w) Z.A Z.env Z.xe
 kd:sc.kind=.function
section
variable {c:Cf}{lv:Nat}{K:Uw}{t:List FT}{va:List V}
def sV{k:Nat}{sc:Scope}{N:U3}{e:Expr}(h:kX c lv (.v k) sc N e=true)(Z:Cx)(E:CE c lv K t va sc N Z):PE Z e (eD k):=by
 let hh:=aq h;clear h;let⟨x,q,h⟩:=hh;let⟨p,rfl⟩:=lX q;let⟨h1,h2,h3,h4⟩:=dF h;let h1:=aP h1;let h2:=C6 h2;exact @Ck _ _ _ _ (E.n▸h1) (E.sc▸h2) (nb h3) (nb h4)
def AG{e:Expr}(h:b8 e=true){es:U2}{env:Env}:assignEach (e::es) env=(false,assign e env)::assignEach es env:=by
 cases e<;>first|rfl|cases h
theorem nB{env:Env}:∀{es:U2},es.all b8=true→(assignEach es env).length=es.length∧(assignEach es env).findIdx? (λx=>x.1)=none
 |[],_=>⟨rfl,rfl⟩
 |e::es,h=>by
  rw[mR,k8]at h;let⟨h1,h2⟩:=nB (env:=env) h.2;rw[AG h.1];refine⟨by simp[h1],?_⟩;rw[List.findIdx?_cons,h2];rfl
mutual
theorem sG:∀(g:G) {sc:Scope}{N:U3}{e:Expr},kG g sc N e=true→∃tg,(∀Z,CS c lv K t va sc N Z→PG Z e tg)∧JG K tg (eG g)
 |.n i,sc,N,e,h=>by
  let hh:=aq h;clear h;let⟨x,q,h⟩:=hh;let⟨p,rfl⟩:=lX q;let⟨h1,h2⟩:=bR h;let h1:=aP h1;exact⟨_,λZ E=>@qX _ _ i _ (E.e.n▸E.nd) (E.e.n▸h1) (E.e.sc▸Dc h2) (.inl (E.fn _)),KL⟩
 |.t k l,sc,N,e,h=>by
  let hh:=aq h;clear h;let⟨es,q,h⟩:=hh;let⟨k',p,rfl⟩:=wA q;let⟨h1,h2,h3⟩:=fX h;cases aP h1;let⟨tg,pg,jg⟩:=zl l h3;exact⟨_,λZ E=>E.e.k▸@Cp _ _ _ _ _ _ E.e.calm (pg Z E) (nB h2).1 (nB h2).2,M9 jg⟩
 |.l k l,sc,N,e,h=>by
  let hh:=aq h;clear h;let⟨es,q,h⟩:=hh;let⟨k',p,rfl⟩:=wA q;let⟨h1,h2,h3⟩:=fX h;cases aP h1;let⟨tg,pg,jg⟩:=zl l h3;exact⟨_,λZ E=>E.e.k▸@MF _ _ _ _ _ _ E.e.calm (pg Z E) (nB h2).1 (nB h2).2,Nv jg⟩
theorem zl:∀(l:Gs) {sc:Scope}{N:U3}{es:U2},u6 l sc N es=true→∃tg,(∀Z,CS c lv K t va sc N Z→mY Z es tg)∧m8 K tg (uX l)
 |.n,_,_,es,h=>by
  cases cL.mp h;exact⟨_,λ_ _=>Bn,KN⟩
 |.c g l,sc,N,es,h=>by
  let hh:=aq h;clear h;let⟨⟨e,r⟩,q,h⟩:=hh;cases gF q;let⟨h0,h1,h2⟩:=fX h;let⟨ta,pa,ja⟩:=sG g h1;let⟨tl,pl,jl⟩:=zl l h2;exact⟨_,λZ E=>@vC _ _ _ _ _ (pa Z E) (pl Z E) (by rw[AG h0];rfl),Jm ja jl⟩
end
def mv{e:Expr}{o:Option Expr}{n:Nat}{env:Env}(h:kJ e=true):swapsWith e o n env=pure false:=by
 cases e<;>first|rfl|cases h
end
end C
set_option maxHeartbeats 4000000
namespace C
open PySem PySem.Spec L2 J
section
variable {c:Cf}{lv:Nat}{K:Uw}{t:List FT}{va:List V}
def B2{el:Expr}{gs:List Comprehension}{aj:Scope}{ep py:Pos}{y:Str}{n:Nat}{env:Env} :
  swapsWith (.ListComp el gs aj ep) (some (.Name y py)) n env=pure true∧env.scope.names.lookup y=some .local∨swapsWith (.ListComp el gs aj ep) (some (.Name y py)) n env=pure false:=by
 let e:swapsWith (.ListComp el gs aj ep) (some (.Name y py)) n env=pure (env.blockKind==.function&&env.kindOf y==some .local&&py.line==ep.line&&!(aj.names.any λx=>match x with | (n,k)=>n==y&&(k==NameKind.local||k==NameKind.cell))):=rfl
 rw[e];generalize hb:(env.blockKind==.function&&env.kindOf y==some .local&&py.line==ep.line&&!(aj.names.any λx=>match x with | (n,k)=>n==y&&(k==NameKind.local||k==NameKind.cell)))=b
 cases b with
 |false=>exact .inr rfl
 |true =>
  let⟨_,h,_,_⟩:=dF hb;exact .inl ⟨rfl,by simpa[Env.kindOf]using h⟩
def R6{i:I}{ix:U0}{t':T}{d:X}{sc:Scope}{N:U3}{e:Expr}(h:kX c lv (.cp i ix t' d) sc N e=true) :
  ∃el x px it ifs aj ep wi tc te,e=.ListComp el [⟨.Name x px,it,ifs,0⟩] aj ep∧(∀Z,CE c lv K t va sc N Z→iJ Z.N (ns N x ix) Z.env.scope aj x ix∧PI Z (.Name x px) it wi∧(∀C s₂ H₂ fp pn,i3 (Z.aV (ns N x ix) aj C s₂ H₂ fp pn) ifs tc)∧(∀C s₂ H₂ fp pn,PE (Z.aV (ns N x ix) aj C s₂ H₂ fp pn) el te))∧gk it=true∧JT K (lZ wi ix tc te) (eX t (.cp i ix t' d)):=by
 let hh:=aq h;clear h;let⟨⟨el,x,px,it,ifs,aj,ep⟩,q,h⟩:=hh;cases vX q;let⟨h1,h2,h3,h4,h5⟩:=j7 h;let h1:=wy h1;let⟨ti,pi,ji⟩:=sI i h3;let⟨te,pe,je⟩:=sX d h5;let h4:(ifs.isEmpty=true∧pY t'=true)∨(on (l1 ifs) λy=>kT c lv t' (rl sc aj) (ns N x ix) y)=true:=by simpa using h4
 rcases h4 with⟨w1,w2⟩|h4
 ·cases cL.mp w1;cases t'<;>first|exact absurd w2 aL|skip
  exact⟨el,x,px,it,[],aj,ep,_,_,_,rfl,λZ E=>⟨by rw[E.n,E.sc];exact h1,pi Z (.Name x px) E (λz=>absurd z aL),(λC s₂ H₂ fp pn=>nK),(λC s₂ H₂ fp pn=>pe _ E.aV)⟩,h2,rg ji vR je⟩
 ·let hh:=aq h4;clear h4;let⟨y,q,h4⟩:=hh;cases dI q;let⟨tq,pq,jq⟩:=sT t' h4;exact⟨el,x,px,it,[y],aj,ep,_,_,_,rfl,λZ E=>⟨by rw[E.n,E.sc];exact h1,pi Z (.Name x px) E (λz=>absurd z aL),(λC s₂ H₂ fp pn=>vO (pq _ E.aV)),(λC s₂ H₂ fp pn=>pe _ E.aV)⟩,h2,rg ji jq je⟩
def Ge {o:Expr}{nm:Str}{ap cp:Pos}{to:TE}{id:String}{r:V→List V→Hp→VK→Prop}{Z:Cx} (k:Z.K=K) (h1:Slot "list" nm id) (h2:typeOf (.builtin id)=pure (.type "method_descriptor")) (h3:uC Z id r) (ho:PE Z o to) (h4:lC o=true) (h5:(ap.endLine==cp.line)=true):PE Z (.Call (.Attribute o nm ap) [] [] cp) (sN K "list" r to) :=
 k▸@MB _ _ _ _ _ _ _ _ _ PySem.F.plainAttrs_list h1 h2 h3 ho (lW h4) h5
def pE{o a:Expr}{ap cp:Pos}{to ta:TE}{Z:Cx}(k:Z.K=K)(ho:PE Z o to)(ha:PE Z a ta)(h4:lC o=true)(h5:(ap.endLine==cp.line)=true)(h6:b8 a=true):PE Z (.Call (.Attribute o "append" ap) [a] [] cp) (jX K "list" nJ to (fu ta fA)) :=
 k▸@wI _ _ _ _ _ _ _ _ _ _ _ _ PySem.F.plainAttrs_list PySem.F.slot_list_append PySem.F.type_list_append Aw ho (@ju _ _ _ _ _ ha jz (a6 h6)) (lW h4) (C9 h6) h5 (a6 h6) wC
def R7{o a:Expr}{ap cp:Pos}{to ta:TE}{Z:Cx}(k:Z.K=K)(ho:PE Z o to)(ha:PE Z a ta)(h4:lC o=true)(h5:(ap.endLine==cp.line)=true)(h6:b8 a=true):PE Z (.Call (.Attribute o "update" ap) [a] [] cp) (jX K "dict" vW to (fu ta fA)) :=
 k▸@wI _ _ _ _ _ _ _ _ _ _ _ _ yb PySem.F.slot_dict_update PySem.F.type_dict_update Iu ho (@ju _ _ _ _ _ ha jz (a6 h6)) (lW h4) (C9 h6) h5 (a6 h6) wC
def lq{o a b:Expr}{ap cp:Pos}{to ta tb:TE}{Z:Cx}(k:Z.K=K)(ho:PE Z o to)(ha:PE Z a ta)(hb:PE Z b tb)(h4:lC o=true)(h5:(ap.endLine==cp.line)=true)(h6:b8 a=true)(h7:b8 b=true):PE Z (.Call (.Attribute o "insert" ap) [a,b] [] cp) (jX K "list" BX to (fu ta (fu tb fA))) :=
 k▸@wI _ _ _ _ _ _ _ _ _ _ _ _ PySem.F.plainAttrs_list PySem.F.slot_list_insert PySem.F.type_list_insert Iq ho (@ju _ _ _ _ _ ha (@ju _ _ _ _ _ hb jz (a6 h7)) (a6 h6)) (lW h4) (by rw[a6 h6,a6 h7];rfl) h5 (a6 h6) (by rw[a6 h7];rfl)
def tM{Z:Cx}{sc:Scope}{N:U3}{e:Expr}{te:TE}{pos py:Pos}{y:Str}{i:Nat}(E:CS c lv K t va sc N Z)(h1:N[i]?=some y)(h2:loc sc y=true)(h:PE Z e te)(hs:swapsWith e (some (Expr.Name y py)) pos.line Z.env=pure false):dE Z (.Assign [.Name y py] e pos) (gJ te (ft i)) :=
 @Nz _ _ _ _ _ _ i (E.e.n▸E.nd) (E.e.n▸h1) (E.e.sc▸Dc h2) h hs (.inl (E.fn _))
def sL:∀(s:L) {sc:Scope}{N:U3}{st:Stmt},kL c lv s sc N st=true→∃ts,(∀Z,CS c lv K t va sc N Z→dE Z st ts)∧JS K ts (eL t s)
 |.rt x,sc,N,st,h=>by
  let hh:=aq h;clear h;let⟨o,q,h⟩:=hh;let⟨p,rfl⟩:=wD q;let hh:=aq h;clear h;let⟨e,rfl,h⟩:=hh;let⟨te,pe,je⟩:=sX x h;exact⟨_,λZ E=>wo (pe Z E.e),M4 je⟩
 |.nv,sc,N,st,h=>⟨_,λZ E=>JA,JB⟩
 |.st i x,sc,N,st,h=>by
  let hh:=aq h;clear h;let⟨⟨y,e⟩,q,h⟩:=hh;let⟨py,pos,rfl⟩:=rG q;let⟨h1,h2,h3,h4⟩:=dF h;let⟨te,pe,je⟩:=sX x h4;exact⟨_,λZ E=>tM E (aP h1) h2 (pe Z E.e) (mv h3),CV je⟩
 |.sc j i ix t' d,sc,N,st,h=>by
  let hh:=aq h;clear h;let⟨⟨y,e⟩,q,h⟩:=hh;let⟨py,pos,rfl⟩:=rG q;let⟨h1,h2,h3⟩:=fX h;let h1:=aP h1;let⟨el,z,pz,it,ifs,aj,ep,wi,tc,te,e,pe,ns,je⟩:=R6 h3;let e:_=Expr.ListComp el [⟨.Name z pz,it,ifs,0⟩] aj ep:=e;subst e;refine⟨_,λZ E=>?_,CV je⟩;let⟨p1,p2,p3,p4⟩:=pe Z E.e;rcases B2 (el:=el) (gs:=[⟨.Name z pz,it,ifs,0⟩]) (aj:=aj) (ep:=ep) (py:=py) (y:=y) (n:=pos.line) (env:=Z.env) with⟨w,l⟩|w
  ·exact @Ac _ _ _ _ _ _ _ _ _ _ _ _ _ j _ _ _ (E.e.n▸E.nd) (E.e.n▸h1) l p1 E.e.calm p2 p3 p4 w (g6 ns)
  ·exact tM E h1 h2 (@q8 _ _ _ _ _ _ _ _ _ _ _ _ _ p1 E.e.calm p2 p3 p4 (g6 ns)) w
 |.si k i x,sc,N,st,h=>by
  let hh:=aq h;clear h;let⟨⟨tg,e,pos⟩,q,h⟩:=hh;cases nV q;let hh:=aq h;clear h;let⟨⟨o,ie⟩,q,h⟩:=hh;let⟨p,r⟩:=hG q;let r:tg=_:=r;subst r;let⟨h1,h2,h3,h4,h5⟩:=j7 h;let⟨ti,pi,ji⟩:=sX i h4;let⟨te,pe,je⟩:=sX x h5;refine⟨_,λZ E=>@Ny _ _ _ _ _ _ (pe Z E.e) (@Mb _ _ _ _ _ _ _ (sV h3 Z E.e) (pi Z E.e) set_list (NZ h1)) ?_ ?_ rfl,Jj je ji⟩
  ·exact(show swapsWith e (some (Expr.Subscript o ie p)) pos.line Z.env=pure false from mv h2)
  ·cases e<;>rfl
 |.dp k i x,sc,N,st,h=>by
  let hh:=aq h;clear h;let⟨⟨tg,e,pos⟩,q,h⟩:=hh;cases nV q;let hh:=aq h;clear h;let⟨⟨o,ie⟩,q,h⟩:=hh;let⟨p,r⟩:=hG q;let r:tg=_:=r;subst r;let⟨h2,h3,h4,h5⟩:=dF h;let⟨ti,pi,ji⟩:=sX i h4;let⟨te,pe,je⟩:=sX x h5;exact⟨_,λZ E=>vT (hU E.e.rm) (sV h3 Z E.e) (pi Z E.e) (pe Z E.e) (mv h2),Lb je ji⟩
 |.ap k x,sc,N,st,h=>by
  let hh:=aq h;clear h;let⟨e,q,h⟩:=hh;let⟨pos,rfl⟩:=nW q;let hh:=aq h;clear h;let⟨⟨o,as⟩,q,h⟩:=hh;let⟨ap,cp,rfl,h2,h3,h4⟩:=jI q;let hh:=aq h;clear h;let⟨a,q1,h⟩:=hh;cases dI q1;let⟨h5,h6⟩:=bR h;let⟨te,pe,je⟩:=sX x h6;exact⟨_,λZ E=>@nQ _ _ _ _ (pE E.e.k (sV h5 Z E.e) (pe Z E.e) h2 h3 (all1 h4).1) rfl,M6 je⟩
 |.ud k x,sc,N,st,h=>by
  let hh:=aq h;clear h;let⟨e,q,h⟩:=hh;let⟨pos,rfl⟩:=nW q;let hh:=aq h;clear h;let⟨⟨o,as⟩,q,h⟩:=hh;let⟨ap,cp,rfl,h2,h3,h4⟩:=jI q;let hh:=aq h;clear h;let⟨a,q1,h⟩:=hh;cases dI q1;let⟨h5,h6⟩:=bR h;let⟨te,pe,je⟩:=sX x h6;exact⟨_,λZ E=>@nQ _ _ _ _ (R7 E.e.k (sV h5 Z E.e) (pe Z E.e) h2 h3 (all1 h4).1) rfl,NX je⟩
 |.na k i x,sc,N,st,h=>by
  let hh:=aq h;clear h;let⟨e,q,h⟩:=hh;let⟨pos,rfl⟩:=nW q;let hh:=aq h;clear h;let⟨⟨o,as⟩,q,h⟩:=hh;let⟨ap,cp,rfl,h2,h3,h4⟩:=jI q;let hh:=aq h;clear h;let⟨a,q1,h⟩:=hh;cases dI q1;let hh:=aq h;clear h;let⟨⟨o',ie⟩,q,h⟩:=hh;let⟨p,r⟩:=hG q;let r:o=_:=r;subst r;let⟨h0,h5,h6,h7⟩:=dF h;let⟨ti,pi,ji⟩:=sX i h6;let⟨te,pe,je⟩:=sX x h7;exact⟨_,λZ E=>@nQ _ _ _ _ (pE E.e.k (@n6 _ _ _ _ _ _ _ (nL E.e.k) (sV h5 Z E.e) (pi Z E.e) (bL h0)) (pe Z E.e) h2 h3 (all1 h4).1) rfl,Lf ji je⟩
 |.ne i it,sc,N,st,h=>by
  let hh:=aq h;clear h;let⟨⟨y,e⟩,q,h⟩:=hh;let⟨py,pos,rfl⟩:=rG q;let hh:=aq h;clear h;let⟨⟨el,z,pz,ie,ifs,aj,ep⟩,q,h⟩:=hh;let r:e=_:=vX q;subst r;let⟨h1,h2,q1,q2,h6,h7⟩:=lD h;let⟨h4,h5⟩:=bR h7;let h1:=aP h1;let⟨lp,r⟩:=Lr q2;let r:el=_:=r;subst r;cases cL.mp q1;let h6:=wy h6;let⟨ti,pi,ji⟩:=sI it h5;refine⟨_,λZ E=>?_,Le (ix:=[]) ji⟩;let p1:iJ Z.N (ns N z []) Z.env.scope aj z []:=by rw[E.e.n,E.e.sc];exact h6
  let p2:=pi Z (.Name z pz) E.e (λz=>absurd z aL);rcases B2 (el:=.List [] lp) (gs:=[⟨.Name z pz,ie,[],0⟩]) (aj:=aj) (ep:=ep) (py:=py) (y:=y) (n:=pos.line) (env:=Z.env) with⟨w,l⟩|w
  ·exact @Ac _ _ _ _ _ _ _ _ _ _ _ _ _ i _ _ _ (E.e.n▸E.nd) (E.e.n▸h1) l p1 E.e.calm p2 (λC s₂ H₂ fp pn=>nK) (λC s₂ H₂ fp pn=>wc jz) w (g6 h4)
  ·exact tM E h1 h2 (@q8 _ _ _ _ _ _ _ _ _ _ _ _ _ p1 E.e.calm p2 (λC s₂ H₂ fp pn=>nK) (λC s₂ H₂ fp pn=>wc jz) (g6 h4)) w
 |.tp k i x,sc,N,st,h=>by
  let hh:=aq h;clear h;let⟨⟨tg,e,pos⟩,q,h⟩:=hh;cases nV q;let hh:=aq h;clear h;let⟨⟨o,ie⟩,q,h⟩:=hh;let⟨p,r⟩:=hG q;let r:tg=_:=r;subst r;let⟨h2,h3,h4,h5⟩:=dF h;let⟨ti,pi,ji⟩:=sX i h4;let⟨te,pe,je⟩:=sX x h5;exact⟨_,λZ E=>vT (hU E.e.rm) (sV h3 Z E.e) (pi Z E.e) (pe Z E.e) (mv h2),Lh je ji⟩
 |.rU f x,sc,N,st,h=>by
  let hh:=aq h;clear h;let⟨o,q,h⟩:=hh;let⟨pos,rfl⟩:=wD q;let hh:=aq h;clear h;let⟨e,rfl,h⟩:=hh;let hh:=aq h;clear h;let⟨⟨y,as⟩,q,h⟩:=hh;let⟨p,cp,r,nh⟩:=kK q;let r:e=_:=r;subst r;let hh:=aq h;clear h;let⟨i,hf,h⟩:=hh;let hh:=aq h;clear h;let⟨a,q,h⟩:=hh;let q:as=_:=dI q;subst q;let⟨hA,hx⟩:=bR h;let⟨h1,h2,h3,h4,h5,zh⟩:=lD hA;let h1:=aP h1;let⟨te,pe,je⟩:=sX x hx;refine⟨_,λZ E=>wo ?_,JN (F:=FT.q t[f]?) (E:=E0) je⟩;let⟨F,hF,q⟩:=E.e.fs f i hf;cases F with
  |p F=>rw[j6,aP zh]at q;cases q.1
  |oo F =>
   let⟨_,a',fd,ps,k1,k2,k3,k4⟩:=q;rw[←h1]at k2;rw[hF,←E.e.k];rw[←aP h5]at k1;exact @vK _ _ _ _ _ _ _ _ _ _ _ _ _ _ _ _ k1 (E.e.rm.mono (aP h4)) (E.e.gl h2) k2 k3 k4.1 .nil wJ (@ju _ _ _ _ _ (pe Z E.e) jz (a6 (all1 nh).1)) (nb h3) (a6 (all1 nh).1) wC
def R8{i:Nat}:∀(x:Ch) {sc:Scope}{N:U3}{st:Stmt},Gd c lv i x sc N st=true→∃ts,(∀Z,CS c lv K t va sc N Z→dE Z st ts)∧pT K i ts (za t x)
 |.a k x,sc,N,st,h=>by
  let hh:=aq h;clear h;let⟨e,q,h⟩:=hh;let⟨pos,rfl⟩:=nW q;let hh:=aq h;clear h;let⟨⟨o,as⟩,q,h⟩:=hh;let⟨ap,cp,rfl,h2,h3,h4⟩:=jI q;let hh:=aq h;clear h;let⟨a,q1,h⟩:=hh;cases dI q1;let hh:=aq h;clear h;let⟨⟨o',ie⟩,q,h⟩:=hh;let⟨p,r⟩:=hG q;let r:o=_:=r;subst r;let⟨h0,h5,h6,h7⟩:=dF h;let⟨ti,pi,ji⟩:=sX k h6;let⟨te,pe,je⟩:=sX x h7;exact⟨_,λZ E=>@nQ _ _ _ _ (pE E.e.k (@n6 _ _ _ _ _ _ _ (nL E.e.k) (sV h5 Z E.e) (pi Z E.e) (bL h0)) (pe Z E.e) h2 h3 (all1 h4).1) rfl,Pt ji je⟩
 |.c k,sc,N,st,h=>by
  let hh:=aq h;clear h;let⟨e,q,h⟩:=hh;let⟨pos,rfl⟩:=nW q;let hh:=aq h;clear h;let⟨⟨o,as⟩,q,h⟩:=hh;let⟨ap,cp,rfl,h2,h3,h4⟩:=jI q;let hh:=aq h;clear h;let⟨⟨o',ie⟩,q,h⟩:=hh;let⟨p,r⟩:=hG q;let r:o=_:=r;subst r;let⟨h1,h0,h5,h6⟩:=dF h;cases cL.mp h1;let⟨ti,pi,ji⟩:=sX k h6;exact⟨_,λZ E=>@nQ _ _ _ _ (Ge E.e.k PySem.F.slot_list_clear PySem.F.type_list_clear IY (@n6 _ _ _ _ _ _ _ (nL E.e.k) (sV h5 Z E.e) (pi Z E.e) (bL h0)) h2 h3) rfl,Px ji⟩
 |.d k y x,sc,N,st,h=>by
  let hh:=aq h;clear h;let⟨⟨tg,e,pos⟩,q,h⟩:=hh;cases nV q;let hh:=aq h;clear h;let⟨⟨o,ie⟩,q,h⟩:=hh;let⟨p,r⟩:=hG q;let r:tg=_:=r;subst r;let hh:=aq h;clear h;let⟨⟨o',ke⟩,q,h⟩:=hh;let⟨p',r⟩:=hG q;let r:o=_:=r;subst r;let⟨h1,h2,h3,h4,h5,h6⟩:=lD h;let⟨tk,pk,jk⟩:=sX k h4;let⟨ty,py,jy⟩:=sX y h5;let⟨te,pe,je⟩:=sX x h6;exact⟨_,λZ E=>vT (hU E.e.rm) (@n6 _ _ _ _ _ _ _ (nL E.e.k) (sV h3 Z E.e) (pk Z E.e) (bL h2)) (py Z E.e) (pe Z E.e) (mv h1),Pu jk jy je⟩
theorem EG{i:Nat}:∀(l:List Ch) {sc:Scope}{N:U3}{ss rs:List Stmt},tL c lv i l sc N ss=some rs→∃ts,(∀Z tb,CS c lv K t va sc N Z→gQ Z rs tb→gQ Z ss (ts.foldr jL tb))∧mI K i ts (l.map (za t))
  |[],sc,N,ss,rs,h=>by
    cases h;exact⟨[],λ_ _ _ q=>q,.nil⟩
  |x::l,sc,N,[],rs,h=>by cases h
  |x::l,sc,N,st::ss,rs,h=>by
    unfold tL at h;split at h
    · rename_i hk
      let⟨ta,pa,ja⟩:=R8 x hk;let⟨ts,ps,js⟩:=EG l h;exact⟨ta::ts,λZ tb E q=>qR (pa Z E) (ps Z tb E q),.cons ja js⟩
    · cases h
mutual
theorem sS:∀(s:S) {sc:Scope}{N:U3}{st:Stmt},kS c lv s sc N st=true→∃ts,(∀Z,CS c lv K t va sc N Z→dE Z st ts)∧JS K ts (eS t s)
 |.l x,sc,N,st,h=>sL x (st:=st) h
 |.ie t' a b,sc,N,st,h=>by
  let hh:=aq h;clear h;let⟨⟨e,as,bs⟩,q,h⟩:=hh;let⟨p,rfl⟩:=Dg q;let⟨h1,h2,h3⟩:=fX h;let⟨tq,pq,jq⟩:=sT t' h1;let⟨ta,pa,ja⟩:=sB a h2;let⟨tb,pb,jb⟩:=sB b h3;exact⟨_,λZ E=>DY (pq Z E.e) (pa Z E) (pb Z E),Pj jq ja jb⟩
 |.fo i g b,sc,N,st,h=>by
  let hh:=aq h;clear h;let⟨⟨tg,it,body⟩,q,h⟩:=hh;let⟨p,rfl⟩:=Dh q;let⟨h1,h2,h3,h4⟩:=dF h;let⟨ti,pi,ji⟩:=sI i h1;let⟨R9,pg,jg⟩:=sG g h3;let⟨tb,pb,jb⟩:=sB b h4;exact⟨_,λZ E=>@C4 _ _ _ _ _ _ _ _ E.po E.e.calm (pi Z tg E.e id) (pg Z E) (pb Z E) (g6 h2),CW ji jg jb⟩
 |.wh t' b,sc,N,st,h=>by
  let hh:=aq h;clear h;let⟨⟨e,body⟩,q,h⟩:=hh;let⟨p,rfl⟩:=N8 q;let⟨h1,h2⟩:=bR h;let⟨tq,pq,jq⟩:=sT t' h1;let⟨tb,pb,jb⟩:=sB b h2;exact⟨_,λZ E=>Jz E.po (pq Z E.e) (pb Z E),Jn jq jb⟩
 |.fz k s,sc,N,st,h=>by
  let⟨ts,ps,js⟩:=sS s (st:=st) h;exact⟨_,ps,M7 js⟩
 |.fp i k f g b,sc,N,st,h=>by
  let hh:=aq h;clear h;let⟨⟨tg,it,body⟩,q,h⟩:=hh;let⟨p,rfl⟩:=Dh q;let hh:=aq h;clear h;let⟨⟨x,as⟩,q,h⟩:=hh;let⟨pf,cp,r,nh⟩:=kK q;let r:it=_:=r;subst r;let hh:=aq h;clear h;let⟨w,hf,h⟩:=hh;let hh:=aq h;clear h;let⟨⟨a1,r1⟩,q,h⟩:=hh;let q:as=_:=gF q;subst q;let hh:=aq h;clear h;let⟨a2,q,h⟩:=hh;let q:r1=_:=dI q;subst q;let hh:=aq h;clear h;let⟨⟨o,as⟩,q,h⟩:=hh;let⟨ap,T4,r,e2,e3,e4⟩:=jI q;subst r;let⟨hA,h0,hi,hk,h2,hg⟩:=lD (bR h).1;let hb:=(bR h).2;let⟨h1,h3,h4,h5,h6,h7⟩:=lD hA;cases cL.mp h0;let⟨s1,s2⟩:=all1 nh;let h1:=aP h1;let⟨R9,pg,jg⟩:=sG g hg;let⟨tb,pb,jb⟩:=sB b hb;refine⟨_,λZ E=>?_,Li (i:=i) (k:=k) (F:=FT.f t[f]?) (E:=E0) jg jb⟩;refine @C4 _ _ _ _ _ _ _ _ E.po E.e.calm (A1 E.e.k ?_) (pg Z E) (pb Z E) (g6 h2);let⟨F,hF,q⟩:=E.e.fs f w hf;cases F with
  |oo F=>rw[j6,aP h7]at q;cases q.1
  |p F =>
   let⟨_,a,fd,ps,k1,k2,k3,k4⟩:=q;rw[←h1]at k2;rw[hF,←E.e.k];rw[aP h6]at k1;exact @vK _ _ _ _ _ _ _ _ _ _ _ _ _ _ _ _ k1 (E.e.rm.mono (aP h5)) (E.e.gl h3) k2 k3 k4.1 .nil wJ (@ju _ _ _ _ _ (sV hi Z E.e) (@ju _ _ _ _ _ (Ge rfl PySem.F.slot_list_pop PySem.F.type_list_pop MD (sV hk Z E.e) e2 e3) jz (a6 (all1 s2).1)) (a6 s1)) (nb h4) (a6 s1) (iH s2 _)
theorem sB:∀(b:B) {sc:Scope}{N:U3}{ss:List Stmt},kB c lv b sc N ss=true→∃ts,(∀Z,CS c lv K t va sc N Z→gQ Z ss ts)∧JS K ts (eB t b)
 |.n,_,_,ss,h=>by
  cases cL.mp h;exact⟨_,λ_ _=>BP,KH⟩
 |.o s,_,_,ss,h=>by
  let hh:=aq h;clear h;let⟨st,q,h⟩:=hh;cases dI q;let⟨ts,ps,js⟩:=sS s h;exact⟨_,λZ E=>BQ (ps Z E),js⟩
 |.c s b,_,_,ss,h=>by
  let hh:=aq h;clear h;let⟨⟨st,r⟩,q,h⟩:=hh;cases gF q;let⟨h1,h2⟩:=bR h;let⟨ts,ps,js⟩:=sS s h1;let⟨tb,pb,jb⟩:=sB b h2;exact⟨_,λZ E=>qR (ps Z E) (pb Z E),M3 js jb⟩
 |.u i x q r cs b,sc,N,ss,h=>by
  let hh:=aq h;clear h;let⟨⟨s1,Sb⟩,w,h⟩:=hh;cases gF w;let hh:=aq h;clear h;let⟨⟨s2,T5⟩,w,h⟩:=hh;let w:Sb=_:=gF w;subst w;let hh:=aq h;clear h;let⟨⟨y,e⟩,w,h⟩:=hh;let⟨py,pos,w⟩:=rG w;let w:s1=_:=w;subst w;let hh:=aq h;clear h;let⟨⟨ce,as,bs⟩,w,h⟩:=hh;let⟨p,w⟩:=Dg w;let w:s2=_:=w;subst w;let hh:=aq h;clear h;let⟨st,w,h⟩:=hh;let w:as=_:=dI w;subst w;let hh:=aq h;clear h;let⟨rs,w,h⟩:=hh;let⟨h0,h5,h6,h7,h8⟩:=j7 h;let⟨h1,h2,h3,h4⟩:=dF h0;let h7:bs=[]:=cL.mp h7;subst h7;let hh:=aq h6;clear h6;let⟨o,v,h6⟩:=hh;let⟨p',rfl⟩:=wD v;let hh:=aq h6;clear h6;let⟨e',rfl,h6⟩:=hh;let⟨te,pe,je⟩:=sX x h4;let⟨tq,pq,jq⟩:=sT q h5;let⟨tr,pr,jr⟩:=sX r h6;let⟨tb,pb,jb⟩:=sB b h8;let⟨T6,pc,jc⟩:=EG cs w;exact⟨_,λZ E=>qR (tM E (aP h1) h2 (pe Z E.e) (mv h3)) (qR (DY (pq Z E.e) (BQ (wo (pr Z E.e))) BP) (pc Z tb E (pb Z E))),Pw je jq jr jc jb⟩
end
end
end C
namespace C
open PySem PySem.Spec L2 J My
def f9(P:Program)(w:World)(K:Uw)(mg:Str→Option Value)(base:Heap)(fs:List Fi)(t:List FT):Prop :=
 ∀(i:Nat) fi,fs[i]?=some fi→∃F,t[i]?=some F∧j6 P w K mg base fi F
structure zm (K:Uw)(mg:Str→Option Value)(x:Str)(st:Stmt)(ps:U3)(df:Option (Option Int))(f:Addr)(fd:FuncData):Prop where
 mg:mg x=some (.ref f)
 fn:tG K x st f fd
 bd:Binds K fd ps []
 y3:∀n,df=some n→∃t,Binds K fd ps [pU n t]
def kF(c:Cf)(lv:Nat)(N ps:U3)(st:Stmt)(b:B):Bool :=
 decide ((bB st).kind=.function∧(bB st).isCoroutine=false∧(bB st).isGenerator=false∧N.Nodup∧N.take ps.length=ps ∧
  (∀x∈ps,(bB st).names.lookup x=some .local∨(bB st).names.lookup x=some .cell)∧(∀y∈(bB st).names,y.2≠.free))&&kB c lv b (bB st) N (cH st)
section
variable {P:Program}{w:World}{K:Uw}{mg:Str→Option Value}{base:Heap}{t:List FT}{va:List V}
def f9.nil:f9 P w K mg base [] t:=λi fi h=>by simp at h
def f9.cons{fs:List Fi}{f:Fi}{F:FT}(h:f9 P w K mg base fs t)(q:j6 P w K mg base f F):f9 P w K mg base (f::fs) (F::t)
 |0,fi,e=>by cases e;exact⟨F,rfl,q⟩
 |i+1,fi,e=>h i fi e
def ctx{bs:List String}{gs:List (Str×Gv)}{fs:List Fi}{lv:Nat}{N ps:U3}{st:Stmt}{b:B}{qual:Str}{f:Addr}{cd:Value}{A:Around}{outer:List Env}{s:Shared}{H:Hp}{E:XK}(h:f9 P w K mg base fs t)(hb:∀x∈bs,mg (Str.ofString x)=none)(hg:GV K mg va gs)(k:kF ⟨bs,gs,fs⟩ lv N ps st b=true)
  (hr:cw lv (A.deeper (PyProof.Rows.envOfC qual (bB st) s.heap.objs.size f cd))):CS ⟨bs,gs,fs⟩ lv K t va (bB st) N ((jM iZ P w K mg base N qual (bB st) f cd A outer s H E).ll):=by
 let⟨k1,k2⟩:=bR k;let⟨h1,h2,h3,h4,h5,h6,h7⟩:=aP k1;exact⟨⟨rfl,rfl,rfl,rfl,hr,hb,hg,h⟩,h4,λ_=>rfl,PassesOwn.never,h1⟩
def xI{c:Cf}{lv:Nat}{N ps:U3}{st:Stmt}{b:B}(k:kF c lv N ps st b=true):nI N ps (bB st):=by
 let⟨h1,h2,h3,h4,h5,h6,h7⟩:=aP (bR k).1;exact⟨h1,h2,h3,h4,h5,h6,h7⟩
def PH{bs:List String}{gs:List (Str×Gv)}{fs:List Fi}{lv:Nat}{N ps:U3}{x:Str}{st:Stmt}{b:B}{f:Addr}{fd:FuncData}(h:f9 P w K mg base fs t)(hb:∀x∈bs,mg (Str.ofString x)=none)(hg:GV K mg va gs){df:Option (Option Int)}(Df:zm K mg x st ps df f fd)(k:kF ⟨bs,gs,fs⟩ lv N ps st b=true) :
  j6 P w K mg base ⟨x,ps.length,lv+1,none,df⟩ (.p (fn N.length (eB t b))):=by
 refine⟨rfl,f,fd,ps,?_,Df.mg,Df.fn.kp,Df.bd,Df.y3⟩;refine Df.fn.ok (xI k) (λvs H Q E h=>h.1) (λaX A outer s H vs Q E hr q=>?_);let⟨ts,p1,p2⟩:=sB (t:=t) (va:=va) (K:=K) b (bR k).2;exact⟨ts,(p1 _ (ctx h hb hg k hr)).go,BH p2 q⟩
def PJ{bs:List String}{gs:List (Str×Gv)}{fs:List Fi}{lv:Nat}{N ps:U3}{x:Str}{st:Stmt}{b:B}{f:Addr}{fd:FuncData}(h:f9 P w K mg base fs t)(hb:∀x∈bs,mg (Str.ofString x)=none)(hg:GV K mg va gs){df:Option (Option Int)}(Df:zm K mg x st ps df f fd)(k:kF ⟨bs,gs,fs⟩ lv N ps st b=true) :
  j6 P w K mg base ⟨x,ps.length,lv+1,some [],df⟩ (.oo (mH N.length (eB t b))):=by
 refine⟨rfl,f,fd,ps,?_,Df.mg,Df.fn.kp,Df.bd,Df.y3⟩;refine Df.fn.ok (xI k) (λvs H Q E h=>h.1) (λaX A outer s H vs Q E hr q=>?_);let⟨ts,p1,p2⟩:=sB (t:=t) (va:=va) (K:=K) b (bR k).2;exact⟨ts,(p1 _ (ctx h hb hg k hr)).go,Ik p2 q⟩
end
structure Dd where
 nm:Str
 st:Stmt
 ps:U3
 N:U3
 lv:Nat
 io:Option (U0)
 b:B
 df:Option (Option Int):=none
def oG(t:List FT)(d:Dd):FT:=match d.io with
 |none=>.p (fn d.N.length (eB t d.b))
 |some _=>.oo (mH d.N.length (eB t d.b))
abbrev xJ(d:Dd):Fi:=⟨d.nm,d.ps.length,d.lv+1,d.io.map λ_=>[],d.df⟩
def tab:List Dd→List FT
 |[]=>[]
 |d::ds=>oG (tab ds) d::tab ds
def sk(bs:List String)(gs:List (Str×Gv)):List Dd→Bool
 |[]=>true
 |d::ds=>kF ⟨bs,gs,ds.map xJ⟩ d.lv d.N d.ps d.st d.b&&sk bs gs ds
def BA(d:Str)(s:Stmt)(ps:U3):Prop:=∀(kV doc pm:Value) (an:Uz) (aX ct:Value) (us:Uy),us.length=ps.length→bindArgs (PySem.W.fnOf d d (dn s) (cH s) (bB s) .none kV doc pm an aX ct) ⟨us,[]⟩=pure (ps.zip us)
def jj{d:Str}{s:Stmt}{p0:Str}(h:∀k o p n c t u0,bindArgs (PySem.W.fnOf d d (dn s) (cH s) (bB s) .none k o p n c t) ⟨[u0],[]⟩=pure (List.zip [p0] [u0])):BA d s [p0]:=by
 intro _ _ _ _ _ _ us hl;obtain _|⟨_,us⟩:=us
 ·cases hl
 obtain _|_:=us
 ·exact h _ _ _ _ _ _ _
 ·simp at hl
def dX{d:Str}{s:Stmt}{p0 p1:Str}(h:∀k o p n c t u0 u1,bindArgs (PySem.W.fnOf d d (dn s) (cH s) (bB s) .none k o p n c t) ⟨[u0,u1],[]⟩=pure (List.zip [p0,p1] [u0,u1])):BA d s [p0,p1]:=by
 intro _ _ _ _ _ _ us hl;obtain _|⟨_,us⟩:=us
 ·cases hl
 obtain _|⟨_,us⟩:=us
 ·cases hl
 obtain _|_:=us
 ·exact h _ _ _ _ _ _ _ _
 ·simp at hl
def zo{d:Str}{s:Stmt}{p0 p1 p2:Str}(h:∀k o p n c t u0 u1 u2,bindArgs (PySem.W.fnOf d d (dn s) (cH s) (bB s) .none k o p n c t) ⟨[u0,u1,u2],[]⟩=pure (List.zip [p0,p1,p2] [u0,u1,u2])):BA d s [p0,p1,p2]:=by
 intro _ _ _ _ _ _ us hl;obtain _|⟨_,us⟩:=us
 ·cases hl
 obtain _|⟨_,us⟩:=us
 ·cases hl
 obtain _|⟨_,us⟩:=us
 ·cases hl
 obtain _|_:=us
 ·exact h _ _ _ _ _ _ _ _ _
 ·simp at hl
def Sd{d:Str}{s:Stmt}{p0 p1 p2 p3:Str}(h:∀k o p n c t u0 u1 u2 u3,bindArgs (PySem.W.fnOf d d (dn s) (cH s) (bB s) .none k o p n c t) ⟨[u0,u1,u2,u3],[]⟩=pure (List.zip [p0,p1,p2,p3] [u0,u1,u2,u3])):BA d s [p0,p1,p2,p3]:=by
 intro _ _ _ _ _ _ us hl;obtain _|⟨_,us⟩:=us
 ·cases hl
 obtain _|⟨_,us⟩:=us
 ·cases hl
 obtain _|⟨_,us⟩:=us
 ·cases hl
 obtain _|⟨_,us⟩:=us
 ·cases hl
 obtain _|_:=us
 ·exact h _ _ _ _ _ _ _ _ _ _
 ·simp at hl
def Se{d:Str}{s:Stmt}{p0 p1 p2 p3 p4:Str}(h:∀k o p n c t u0 u1 u2 u3 u4,bindArgs (PySem.W.fnOf d d (dn s) (cH s) (bB s) .none k o p n c t) ⟨[u0,u1,u2,u3,u4],[]⟩=pure (List.zip [p0,p1,p2,p3,p4] [u0,u1,u2,u3,u4])):BA d s [p0,p1,p2,p3,p4]:=by
 intro _ _ _ _ _ _ us hl;obtain _|⟨_,us⟩:=us
 ·cases hl
 obtain _|⟨_,us⟩:=us
 ·cases hl
 obtain _|⟨_,us⟩:=us
 ·cases hl
 obtain _|⟨_,us⟩:=us
 ·cases hl
 obtain _|⟨_,us⟩:=us
 ·cases hl
 obtain _|_:=us
 ·exact h _ _ _ _ _ _ _ _ _ _ _
 ·simp at hl
def Sf(d:Str)(s:Stmt)(ps:U3)(n:Option Int):Prop:=∀(K:Uw) (a:Addr) (tk:Tok) (o:Value) (p:Uz) (k:Nat) (sl:Array (Option Value)) (kV doc pm:Value) (an:Uz) (aX ct:Value),K.lookup a=some ⟨o,p,.seq #[pU n tk] k,sl⟩ →
 Binds K (PySem.W.fnOf d d (dn s) (cH s) (bB s) (.ref a) kV doc pm an aX ct) ps []∧Binds K (PySem.W.fnOf d d (dn s) (cH s) (bB s) (.ref a) kV doc pm an aX ct) ps [pU n tk]
abbrev Gf(d:Str)(s:Stmt)(ps:U3):Option (Option Int)→Prop
 |none=>BA d s ps
 |some n=>Sf d s ps n
def vb:List Dd→Prop
 |[]=>True
 |d::ds=>Gf d.nm d.st d.ps d.df∧vb ds
def Gg(K:Uw)(d:Str)(s:Stmt)(dV:Value):Prop:=∃(f:Addr) (oc:Value) (od:Uz) (kV dc pm:Value) (an:Uz) (cd ct:Value) (sl:Array (Option Value)),
 PySem.W.nsIn K mainGlobals d=some (some (.ref f))∧K.lookup f=some ⟨oc,od,.func (PySem.W.fnOf d d (dn s) (cH s) (bB s) dV kV dc pm an cd ct),sl⟩∧PySem.W.codeIn K cd d=true∧PySem.W.keepIn K (.ref f)=true
def DE(K:Uw)(d:Str)(s:Stmt):Option (Option Int)→Prop
 |none=>Gg K d s .none
 |some n=>∃(a:Addr) (tk:Tok) (o:Value) (p:Uz) (k:Nat) (sl:Array (Option Value)),Gg K d s (.ref a)∧K.lookup a=some ⟨o,p,.seq #[pU n tk] k,sl⟩
def QF{K:Uw}{d:Str}{s:Stmt}{f:Addr}{oc:Value}{od:Uz}{kV dc pm:Value}{an:Uz}{cd ct:Value}{sl:Array (Option Value)}(a:PySem.W.nsIn K mainGlobals d=some (some (.ref f)))(l:K.lookup f=some ⟨oc,od,.func (PySem.W.fnOf d d (dn s) (cH s) (bB s) .none kV dc pm an cd ct),sl⟩)(c:PySem.W.codeIn K cd d=true)(k:PySem.W.keepIn K (.ref f)=true):DE K d s none :=
 ⟨f,oc,od,kV,dc,pm,an,cd,ct,sl,a,l,c,k⟩
abbrev vd(K:Uw):List Dd→Prop
 |[]=>True
 |d::ds=>DE K d.nm d.st d.df∧vd K ds
abbrev ve(K:Uw):List String→Prop
 |[]=>True
 |b::bs=>PySem.W.nsIn K mainGlobals (Str.ofString b)=some none∧ve K bs
def GE(K:Uw)(x:Str):Gv→Prop
 |.s y=>∃tk,PySem.W.nsIn K mainGlobals x=some (some (.str y tk))
 |.t l=>∃(a:Addr) (it:Array Value) (n:Nat) (sl:Array (Option Value)),PySem.W.nsIn K mainGlobals x=some (some (.ref a))∧K.lookup a=some ⟨.type "tuple",none,.seq it n,sl⟩∧it.toList.map mx=l.map (λy=>some (V.str y))∧4≤l.length∧l.length≤1000
abbrev vf(K:Uw):List (Str×Gv)→Prop
 |[]=>True
 |g::gs=>GE K g.1 g.2∧vf K gs
section
variable {P:Program}{w:World}{K:Uw}{mg:Str→Option Value}{base:Heap}
theorem Di{h:Heap}(X:K.In h)(G:h.Ns mainGlobals mg):∀{bs:List String},ve K bs→∀x∈bs,mg (Str.ofString x)=none
 |[],_,_,m=>nomatch m
 |b::bs,q,x,m=>by
  rcases cS.mp m with rfl|m
  ·exact PySem.W.mg_none_of X G q.1
  ·exact Di X G q.2 x m
theorem D7{h:Heap}(X:K.In h)(G:h.Ns mainGlobals mg):∀{gs:List (Str×Gv)},vf K gs→∃va,GV K mg va gs
  |[],_=>⟨[],λi g e=>by simp at e⟩
  | (x,g)::gs,q=>by
    let⟨va,r⟩:=D7 X G q.2;let one:∃v u,mg x=some u∧RelV v u∧JT K (tC v) (jC g.d):=by
      cases g with
      |s y =>
        let⟨tk,e⟩:=q.1;exact⟨.str y,_,oT X G e,⟨_,rfl⟩,kU rfl⟩
      |t l =>
        let⟨a,it,n,sl,e,lk,m,hl⟩:=q.1;exact⟨.ref a,_,oT X G e,rfl,Nw (K9 lk m hl) λ_ _=>Ab l⟩
    let⟨v,u,h1,h2,h3⟩:=one;refine⟨v::va,λi g' e=>?_⟩;cases i with
    |zero=>cases e;exact⟨v,u,rfl,h1,h2,h3⟩
    |succ i=>exact r i g' e
def PK{h:Heap}{d:Str}{s:Stmt}{ps:U3}{df:Option (Option Int)}(X:K.In h)(G:h.Ns mainGlobals mg)(e:DE K d s df)(b:Gf d s ps df):∃f fd,zm K mg d s ps df f fd:=by
 cases df with
 |none =>
  let⟨f,oc,od,kV,dc,pm,an,cd,ct,sl,q1,q2,q3,q4⟩:=e;exact⟨f,_,oT X G q1,⟨⟨_,_,_,_,_,_,_,_,_,_,rfl,q2,q3⟩,q4⟩,(CG q2 q3 q4).binds b,λn z=>nomatch z⟩
 |some n =>
  let⟨a,tk,o,p,k,sD,⟨f,oc,od,kV,dc,pm,an,cd,ct,sl,q1,q2,q3,q4⟩,e⟩:=e;let z:=b K a tk o p k sD kV dc pm an cd ct e;exact⟨f,_,oT X G q1,⟨⟨_,_,_,_,_,_,_,_,_,_,rfl,q2,q3⟩,q4⟩,z.1,λm w=>by cases w;exact⟨tk,z.2⟩⟩
theorem D8{h:Heap}{bs:List String}{gs:List (Str×Gv)}{va:List V}(X:K.In h)(G:h.Ns mainGlobals mg)(hb:∀x∈bs,mg (Str.ofString x)=none)(hg:GV K mg va gs):∀{ds:List Dd},vd K ds→vb ds→sk bs gs ds=true→f9 P w K mg base (ds.map xJ) (tab ds)
 |[],_,_,_=>f9.nil
 |d::ds,q,b,k=>by
  let⟨k1,k2⟩:=bR k;let r:=D8 X G hb hg q.2 b.2 k2;let⟨f,fd,D⟩:=PK X G q.1 b.1;refine f9.cons r ?_;let⟨nm,st,ps,N,lv,io,bd,df⟩:=d;cases io with
  |none=>exact PH r hb hg D k1
  |some io=>exact PJ r hb hg D k1
def bM{d:Dd}{ds:List Dd}{t:List FT}{g:Ul}{F:Ur}(e:tab ds=t)(h:d.io=none)(q:eB t d.b=g)(r:fn d.N.length g=F):tab (d::ds)=.p F::t:=by
 subst e q r;show oG (tab ds) d::tab ds=_;unfold oG;rw[h]
def N9{d:Dd}{ds:List Dd}{t:List FT}{g:Ul}{F:Ut→Option D}(e:tab ds=t)(h:d.io=some [])(q:eB t d.b=g)(r:mH d.N.length g=F):tab (d::ds)=.oo F::t:=by
 subst e q r;show oG (tab ds) d::tab ds=_;unfold oG;rw[h]
def PL {h:Heap}{bs:List String}{gs:List (Str×Gv)}{ds:List Dd}{st:Stmt}{N:U3}{lv:Nat}{b:B}{t:List FT}{F:Ur}{x:Str}{fa:Addr} (X:K.In h) (G:h.Ns mainGlobals mg) (zp:mg "law" = some (.ref fa)) (hb:ve K bs) (hg:vf K gs) (q:vd K (⟨"law",st,[x],N,lv,none,b,none⟩::ds)) (ba:vb (⟨"law",st,[x],N,lv,none,b,none⟩::ds)) (k:sk bs gs (⟨"law",st,[x],N,lv,none,b,none⟩::ds)=true)
  (e:tab (⟨"law",st,[x],N,lv,none,b,none⟩::ds)=.p F::t) (hs:∀(kV doc pm:Value) (an:Uz) (aX ct:Value) (s:Shared) (v:Value),BindsTo s (PySem.W.fnOf "law" "law" (dn st) (cH st) (bB st) .none kV doc pm an aX ct) ⟨[v],[]⟩ [(x,v)]) :
  ∃fd:FuncData,(∀(s:Shared) (v:Value),BindsTo s fd ⟨[v],[]⟩ [(x,v)])∧∀base:Heap,K.In base→base.Ns mainGlobals mg→iN P w K mg base iZ (lv+1) fa fd [x] (j5 K 1 F):=by
 let⟨k1,k2⟩:=bR k;let hb:=Di X G hb;let⟨va,hg⟩:=D7 X G hg;let⟨⟨f,oc,od,kV,dc,pm,an,cd,ct,sl,q1,q2,q3,q4⟩,qs⟩:=q;let ef:=zp.symm.trans (oT X G q1);cases ef;refine⟨_,λs v=>hs kV dc pm an cd ct s v,λbase _ _=>?_⟩;let r:f9 P w K mg base (ds.map xJ) (tab ds):=D8 X G hb hg qs ba.2 k2;let ht:fn N.length (eB (tab ds) b)=F:=by
  let e:FT.p (fn N.length (eB (tab ds) b))::tab ds=.p F::t:=e;cases e;rfl
 let fk:=CG (x := "law") (qual := "law") (st:=st) q2 q3 q4;refine fk.ok (xI k1) (λvs H Q E h=>h.1) (λaX A outer s H vs Q E hr q=>?_);let⟨ts,p1,p2⟩:=sB (t:=tab ds) (va:=va) (K:=K) b (bR k1).2;rw[←ht]at q;exact⟨ts,(p1 _ (ctx r hb hg k1 hr)).go,BH p2 q⟩
end
end C
namespace aY
open PySem PySem.Spec L2 My J
abbrev top(i:Nat):PySem.Stmt:=PySem.Challenge.pw_lazyhoist_k70_still_papers_laid.main.body.getD i (.Pass ⟨0,0,0,0⟩)
abbrev bs:List String:=["enumerate", "int", "isinstance", "len", "list", "range", "tuple"]
abbrev gs:List (Str×C.Gv):=[]
abbrev e0:C.tab []=[]:=rfl
def Ag:Ul :=
 (au (aU (jB (ah g0 (jV 1) (bY cA (ag (jV 0) ai))))
  (aN (ah aC (jV 0) (jV 1)))
  bj)
 (aN (ah bp (ah cW (jV 1) (jC (.int 7919))) (jC (.int 11)))))
def gB:Ur:=fn 2 Ag
def d1:C.Dd:=⟨"_law_cell",top 56,["_law_script", "_law_k"],["_law_script", "_law_k"],0,none,(.c (.ie (.c .lt (.v 1) (.fb .len (.c (.v 0) .n))) (.o (.l (.rt (.ix (.v 0) (.v 1))))) .n) (.o (.l (.rt (.bo .add (.bo .mul (.v 1) (.ki 7919)) (.ki 11)))))),none⟩
def e1:=C.bM (d:=d1) (F:=gB) e0 rfl rfl rfl
def qb:Ul :=
 (au (aE 10 (ah cW (ah cW (jC (.int 5)) (jV 7)) (bY oB (ag (ah bA (jV 9) (ah bt (jV 1) (jV 4))) ai))))
 (aE 8 (ah bp (jV 8) (ah aC (jV 2) (ah bt (ah bp (ah aC (jV 5) (jV 9)) (jV 10)) (jC (.int 26)))))))
def qc:Ul :=
 (au (aE 8 (jC (.str "")))
 (au (b4 (dw (ag (jV 4) ai)) (gN 9)
  qb)
 (au (aU (jB (ah (tD false) (jV 8) (a9 (ag (jC (.str "say")) (ag (jC (.str "go")) (ag (jC (.str "part")) (ag (jC (.str "end")) ai)))))))
  (aE 8 (ah bp (jV 8) (jC (.str "x"))))
  bj)
 (dM 6 (jV 8)))))
def zT:Ul :=
 (au (aE 2 (jC (.str "abcdefghijklmnopqrstuvwxyz")))
 (au (aE 3 (a9 (ag (jC (.int 1009)) (ag (jC (.int 1013)) (ag (jC (.int 1019)) (ag (jC (.int 1021)) (ag (jC (.int 1031)) (ag (jC (.int 1033)) (ag (jC (.int 1039)) (ag (jC (.int 1049)) ai))))))))))
 (au (aE 4 (ah bp (jC (.int 1)) (ah bt (jV 0) (jC (.int 8)))))
 (au (aE 5 (jH (dw (ag (jV 4) ai)) [3,0] ia (ah bt (ah bt (ah cW (ah cv (jV 2) (jC (.int 8))) (jC (.int 48271))) (ah aC (jV 1) (jV 0))) (jC (.int 26)))))
 (au (aE 6 (a9 ai))
 (au (b4 (dw (ag (jC (.int 5)) ai)) (gN 7)
  qc)
 (aN (jV 6))))))))
def qm:Ur:=fn 11 zT
def d2:C.Dd:=⟨"_law_names",top 57,["_law_cell_here", "_law_at"],["_law_cell_here", "_law_at", "_law_letters", "_law_primes", "_law_size", "_law_base", "_law_names_here", "_law_k", "_law_name", "_law_j", "_law_step"],0,none,(.c (.l (.st 2 (.ks "abcdefghijklmnopqrstuvwxyz"))) (.c (.l (.st 3 (.li (.c (.ki 1009) (.c (.ki 1013) (.c (.ki 1019) (.c (.ki 1021) (.c (.ki 1031) (.c (.ki 1033) (.c (.ki 1039) (.c (.ki 1049) .n))))))))))) (.c (.l (.st 4 (.bo .add (.ki 1) (.bo .mod (.v 0) (.ki 8))))) (.c (.l (.sc 5 (.r1 (.c (.v 4) .n)) [3,0] .y (.bo .mod (.bo .mod (.bo .mul (.bo .div (.v 2) (.ki 8)) (.ki 48271)) (.ix (.v 1) (.v 0))) (.ki 26)))) (.c (.l (.st 6 (.li .n))) (.c (.fo (.r1 (.c (.ki 5) .n)) (.n 7) (.c (.l (.st 8 (.ks ""))) (.c (.fo (.r1 (.c (.v 4) .n)) (.n 9) (.c (.l (.st 10 (.bo .mul (.bo .mul (.ki 5) (.v 7)) (.fb .int (.c (.co .eq (.v 9) (.bo .mod (.v 1) (.v 4))) .n))))) (.o (.l (.st 8 (.bo .add (.v 8) (.ix (.v 2) (.bo .mod (.bo .add (.ix (.v 5) (.v 9)) (.v 10)) (.ki 26))))))))) (.c (.ie (.c .uU (.v 8) (.li (.c (.ks "say") (.c (.ks "go") (.c (.ks "part") (.c (.ks "end") .n)))))) (.o (.l (.st 8 (.bo .add (.v 8) (.ks "x"))))) .n) (.o (.l (.ap 6 (.v 8)))))))) (.o (.l (.rt (.v 6)))))))))),none⟩
def e2:=C.bM (d:=d2) (F:=qm) e1 rfl rfl rfl
def zU:Ul :=
 (au (aE 2 (ah bt (ah cW (ah bp (ah bt (jV 0) (jC (.int 2147483629))) (jC (.int 11))) (ah bp (jC (.int 69621)) (ah cW (jC (.int 2)) (jV 1)))) (jC (.int 2147483629))))
 (aN (ah bp (ah cW (ah bt (ah cW (jV 2) (ah bp (ah bt (jV 2) (jC (.int 104729))) (jC (.int 1)))) (jC (.int 2147483587))) (jC (.int 4294967291))) (jV 2))))
def lL:Ur:=fn 3 zU
def d3:C.Dd:=⟨"_law_mixed",top 58,["_law_cell_here", "_law_k"],["_law_cell_here", "_law_k", "_law_number"],0,none,(.c (.l (.st 2 (.bo .mod (.bo .mul (.bo .add (.bo .mod (.v 0) (.ki 2147483629)) (.ki 11)) (.bo .add (.ki 69621) (.bo .mul (.ki 2) (.v 1)))) (.ki 2147483629)))) (.o (.l (.rt (.bo .add (.bo .mul (.bo .mod (.bo .mul (.v 2) (.bo .add (.bo .mod (.v 2) (.ki 104729)) (.ki 1))) (.ki 2147483587)) (.ki 4294967291)) (.v 2)))))),none⟩
def e3:=C.bM (d:=d3) (F:=lL) e2 rfl rfl rfl
def zV:Ul :=
 (au (aU (jB (ah bA (ah bt (aJ gB (ag (jV 0) (ag (jC (.int 0)) ai))) (jC (.int 2))) (jC (.int 1))))
  (aN (aJ lL (ag (aJ gB (ag (jV 0) (ag (jV 1) ai))) (ag (jV 1) ai))))
  bj)
 (aN (aJ gB (ag (jV 0) (ag (jV 1) ai)))))
def lM:Ur:=fn 2 zV
def d4:C.Dd:=⟨"_law_drawn",top 59,["_law_script", "_law_k"],["_law_script", "_law_k"],1,none,(.c (.ie (.c .eq (.bo .mod (.ca 2 (.c (.v 0) (.c (.ki 0) .n))) (.ki 2)) (.ki 1)) (.o (.l (.rt (.ca 0 (.c (.ca 2 (.c (.v 0) (.c (.v 1) .n))) (.c (.v 1) .n)))))) .n) (.o (.l (.rt (.ca 2 (.c (.v 0) (.c (.v 1) .n))))))),none⟩
def e4:=C.bM (d:=d4) (F:=lM) e3 rfl rfl rfl
def zH:Ul :=
 (au (aE 2 (ah aC (jV 0) (jV 1)))
 (au (aU (jB (ah bA (ah aC (jV 2) (jC (.int 0))) (jC (.str "go"))))
  (aN (a9 (ag (ah aC (jV 2) (jC (.int 1))) ai)))
  bj)
 (au (aU (jB (ah bA (ah aC (jV 2) (jC (.int 0))) (jC (.str "part"))))
  (aN (a9 (ag (ah bp (jV 1) (jC (.int 1))) (ag (ah aC (jV 2) (jC (.int 2))) ai))))
  bj)
 (au (aU (jB (ah bA (ah aC (jV 2) (jC (.int 0))) (jC (.str "end"))))
  (aN (a9 ai))
  bj)
 (aN (a9 (ag (ah bp (jV 1) (jC (.int 1))) ai)))))))
def lJ:Ur:=fn 3 zH
def d5:C.Dd:=⟨"_law_followers",top 63,["_law_program_here", "_law_n"],["_law_program_here", "_law_n", "_law_row_here"],0,none,(.c (.l (.st 2 (.ix (.v 0) (.v 1)))) (.c (.ie (.c .eq (.ix (.v 2) (.ki 0)) (.ks "go")) (.o (.l (.rt (.li (.c (.ix (.v 2) (.ki 1)) .n))))) .n) (.c (.ie (.c .eq (.ix (.v 2) (.ki 0)) (.ks "part")) (.o (.l (.rt (.li (.c (.bo .add (.v 1) (.ki 1)) (.c (.ix (.v 2) (.ki 2)) .n)))))) .n) (.c (.ie (.c .eq (.ix (.v 2) (.ki 0)) (.ks "end")) (.o (.l (.rt (.li .n)))) .n) (.o (.l (.rt (.li (.c (.bo .add (.v 1) (.ki 1)) .n))))))))),none⟩
def e5:=C.bM (d:=d5) (F:=lJ) e4 rfl rfl rfl
def qo:Ul :=
 (aU (jB (ah bA (ah aC (ah aC (jV 0) (jV 2)) (jC (.int 0))) (jC (.str "end"))))
  (kH 1 (jV 2) (jC (.int 0)))
  bj)
def qq:Ul :=
 (aU (fC (jB (cX false (jV 4) (jV 1))) (gx (jB (cX true (jV 2) (jV 1))) (jB (ah g0 (ah bp (hZ (jV 1) (jV 4)) (jC (.int 1))) (hZ (jV 1) (jV 2))))))
  (au (kH 1 (jV 2) (ah bp (hZ (jV 1) (jV 4)) (jC (.int 1))))
 (aE 3 (jC (.bl true))))
  bj)
def vv:Ul :=
 (b4 (cN (aJ lJ (ag (jV 0) (ag (jV 2) ai)))) (gN 4)
  qq)
def qt:Ul :=
 (au (aE 3 (jC (.bl false)))
 (b4 (tI (ag (ah gP (bY cA (ag (jV 0) ai)) (jC (.int 1))) (ag (eY gf (jC (.int 1))) (ag (eY gf (jC (.int 1))) ai)))) (gN 2)
  vv))
abbrev zW:Up :=
 (jB (jV 3))
def AH:Ul :=
 (au (aE 1 lV)
 (au (b4 (dw (ag (bY cA (ag (jV 0) ai)) ai)) (gN 2)
  qo)
 (au (aE 3 (jC (.bl true)))
 (au (gE zW
  qt)
 (aN (jV 1))))))
def qG:Ur:=fn 5 AH
def d6:C.Dd:=⟨"_law_far",top 65,["_law_program_here"],["_law_program_here", "_law_far_here", "_law_n", "_law_more", "_law_m"],1,none,(.c (.l (.st 1 .dK)) (.c (.fo (.r1 (.c (.fb .len (.c (.v 0) .n)) .n)) (.n 2) (.o (.ie (.c .eq (.ix (.ix (.v 0) (.v 2)) (.ki 0)) (.ks "end")) (.o (.l (.dp 1 (.v 2) (.ki 0)))) .n))) (.c (.l (.st 3 (.kb true))) (.c (.wh (.b (.v 3)) (.c (.l (.st 3 (.kb false))) (.o (.fo (.r3 (.c (.bo .sub (.fb .len (.c (.v 0) .n)) (.ki 1)) (.c (.uo .neg (.ki 1)) (.c (.uo .neg (.ki 1)) .n)))) (.n 2) (.o (.fo (.l (.ca 0 (.c (.v 0) (.c (.v 2) .n)))) (.n 4) (.o (.ie (.an (.d false (.v 4) (.v 1)) (.or (.d true (.v 2) (.v 1)) (.c .lt (.bo .add (.dg (.v 1) (.v 4)) (.ki 1)) (.dg (.v 1) (.v 2))))) (.c (.l (.dp 1 (.v 2) (.bo .add (.dg (.v 1) (.v 4)) (.ki 1)))) (.o (.l (.st 3 (.kb true))))) .n)))))))) (.o (.l (.rt (.v 1)))))))),none⟩
def e6:=C.bM (d:=d6) (F:=qG) e5 rfl rfl rfl
def lK:Ul :=
 (aU (jB (cX true (jV 3) (jV 1)))
  (au (kH 1 (jV 3) (jC (.bl true)))
 (dM 2 (jV 3)))
  bj)
def vk:Ul :=
 (r9 0 2 lJ (gN 3)
  lK)
def vm:Up :=
 (jB (ah dA (jV 2) (a9 ai)))
def zK:Ul :=
 (au (aE 1 (wN (jC (.int 0)) (jC (.bl true))))
 (au (aE 2 (a9 (ag (jC (.int 0)) ai)))
 (au (gE vm
  vk)
 (aN (jV 1)))))
def qd:Ur:=fn 4 zK
def d7:C.Dd:=⟨"_law_reached",top 64,["_law_rows"],["_law_rows", "_law_seen", "_law_left", "_law_m"],1,none,(.c (.l (.st 1 (.d1 (.ki 0) (.kb true)))) (.c (.l (.st 2 (.li (.c (.ki 0) .n)))) (.c (.wh (.c .i9 (.v 2) (.li .n)) (.o (.fp 0 2 1 (.n 3) (.o (.ie (.d true (.v 3) (.v 1)) (.c (.l (.dp 1 (.v 3) (.kb true))) (.o (.l (.ap 2 (.v 3))))) .n))))) (.o (.l (.rt (.v 1))))))),none⟩
def e7:=C.bM (d:=d7) (F:=qd) e6 rfl rfl rfl
def nz:Ul :=
 (au (aE 3 (aJ qd (ag (jV 0) ai)))
 (au (aE 4 (aJ qG (ag (jV 0) ai)))
 (au (aE 5 (jH (dw (ag (bY cA (ag (jV 0) ai)) ai)) [3] (jB (cX true (jV 0) (jV 1))) (jV 0)))
 (au (aE 6 (jH (dw (ag (bY cA (ag (jV 0) ai)) ai)) [4] (jB (cX true (jV 0) (jV 1))) (jV 0)))
 (aU (jB (ah dA (jV 5) (a9 ai)))
  (g8 0 (ah gP (ah aC (jV 5) (jC (.int 0))) (jC (.int 1))) (bG (ag (jC (.str "say")) (ag (jV 2) ai))))
  (aU (fC (jB (ah dA (jV 6) (a9 ai))) (jB (ah bA (ah aC (jV 6) (eY gf (jC (.int 1)))) (jV 1))))
  (g8 0 (jV 1) (bG (ag (jC (.str "end")) ai)))
  (aU (jB (ah dA (jV 6) (a9 ai)))
  (g8 0 (ah aC (jV 6) (eY gf (jC (.int 1)))) (bG (ag (jC (.str "say")) (ag (jV 2) ai))))
  (aN (jV 0)))))))))
def zO:Ul :=
 (au (aE 1 (ah gP (bY cA (ag (jV 0) ai)) (jC (.int 1))))
 (au (aU (jB (ah j0 (ah aC (ah aC (jV 0) (jV 1)) (jC (.int 0))) (jC (.str "go"))))
  (g8 0 (jV 1) (bG (ag (jC (.str "end")) ai)))
  bj)
 (au (b4 (dw (ag (ah cW (jC (.int 2)) (bY cA (ag (jV 0) ai))) ai)) (gN 2)
  nz)
 (aN (jV 0)))))
def qi:Ut→Option D:=mH 7 zO
def d8:C.Dd:=⟨"_law_mended",top 66,["_law_rows"],["_law_rows", "_law_last", "_law_turn", "_law_seen", "_law_far_here", "_law_lost", "_law_dead"],2,some [],(.c (.l (.st 1 (.bo .sub (.fb .len (.c (.v 0) .n)) (.ki 1)))) (.c (.ie (.c .ne (.ix (.ix (.v 0) (.v 1)) (.ki 0)) (.ks "go")) (.o (.l (.si 0 (.v 1) (.tu (.c (.ks "end") .n))))) .n) (.c (.fo (.r1 (.c (.bo .mul (.ki 2) (.fb .len (.c (.v 0) .n))) .n)) (.n 2) (.c (.l (.st 3 (.ca 0 (.c (.v 0) .n)))) (.c (.l (.st 4 (.ca 1 (.c (.v 0) .n)))) (.c (.l (.sc 5 (.r1 (.c (.fb .len (.c (.v 0) .n)) .n)) [3] (.d true (.v 0) (.v 1)) (.v 0))) (.c (.l (.sc 6 (.r1 (.c (.fb .len (.c (.v 0) .n)) .n)) [4] (.d true (.v 0) (.v 1)) (.v 0))) (.o (.ie (.c .i9 (.v 5) (.li .n)) (.o (.l (.si 0 (.bo .sub (.ix (.v 5) (.ki 0)) (.ki 1)) (.tu (.c (.ks "say") (.c (.v 2) .n)))))) (.o (.ie (.an (.c .i9 (.v 6) (.li .n)) (.c .eq (.ix (.v 6) (.uo .neg (.ki 1))) (.v 1))) (.o (.l (.si 0 (.v 1) (.tu (.c (.ks "end") .n))))) (.o (.ie (.c .i9 (.v 6) (.li .n)) (.o (.l (.si 0 (.ix (.v 6) (.uo .neg (.ki 1))) (.tu (.c (.ks "say") (.c (.v 2) .n)))))) (.o (.l (.rt (.v 0))))))))))))))) (.o (.l (.rt (.v 0))))))),none⟩
def e8:=C.N9 (d:=d8) (F:=qi) e7 rfl rfl rfl
def zL:Ul :=
 (au (aU (jB (ah bA (ah bt (jV 0) (jC (.int 4))) (jC (.int 0))))
  (au (aE 2 (ah cv (jV 0) (jC (.int 12))))
 (aN (ah aC (a9 (ag (ah bt (jV 2) (jC (.int 4))) (ag (ah bt (ah cW (jV 2) (jC (.int 2862933555777941757))) (ah kW (jC (.int 2)) (jC (.int 64)))) (ag (ah gP (ah gP (ah kW (jC (.int 2)) (jC (.int 64))) (jC (.int 1))) (ah bt (jV 2) (jC (.int 3)))) ai)))) (ah bt (ah cv (jV 0) (jC (.int 4))) (jC (.int 3))))))
  bj)
 (aN (ah aC (jV 1) (ah bt (ah cv (jV 0) (jC (.int 4))) (jC (.int 5))))))
def jn:Ur:=fn 3 zL
def d9:C.Dd:=⟨"_law_operand",top 60,["_law_cell_here", "_law_names_here"],["_law_cell_here", "_law_names_here", "_law_rest"],0,none,(.c (.ie (.c .eq (.bo .mod (.v 0) (.ki 4)) (.ki 0)) (.c (.l (.st 2 (.bo .div (.v 0) (.ki 12)))) (.o (.l (.rt (.ix (.li (.c (.bo .mod (.v 2) (.ki 4)) (.c (.bo .mod (.bo .mul (.v 2) (.ki 2862933555777941757)) (.bo .pow (.ki 2) (.ki 64))) (.c (.bo .sub (.bo .sub (.bo .pow (.ki 2) (.ki 64)) (.ki 1)) (.bo .mod (.v 2) (.ki 3))) .n)))) (.bo .mod (.bo .div (.v 0) (.ki 4)) (.ki 3))))))) .n) (.o (.l (.rt (.ix (.v 1) (.bo .mod (.bo .div (.v 0) (.ki 4)) (.ki 5))))))),none⟩
def e9:=C.bM (d:=d9) (F:=jn) e8 rfl rfl rfl
def qj:Ul :=
 (au (aU (jB (ah bA (jV 3) (jC (.int 1))))
  (aE 2 (aJ lL (ag (jV 2) (ag (jV 7) ai))))
  bj)
 (au (aE 8 (aJ jn (ag (ah bt (ah cv (jV 2) (jC (.int 8))) (jV 5)) (ag (jV 1) ai))))
 (au (dM 6 (bG (ag (ah aC (jC (.str "+-*&|^<=")) (ah bt (jV 2) (jC (.int 8)))) (ag (jV 8) (ag (aJ jn (ag (ah bt (ah cv (ah cv (jV 2) (jC (.int 8))) (jV 5)) (jV 5)) (ag (jV 1) ai))) ai)))))
 (aU (jB (ah bA (jV 3) (jC (.int 0))))
  (aE 2 (ah cv (ah cv (ah cv (jV 2) (jC (.int 8))) (jV 5)) (jV 5)))
  bj))))
def Ah:Ul :=
 (au (aE 2 (aJ lM (ag (jV 0) (ag (jC (.int 1)) ai))))
 (au (aE 3 (ah bt (aJ gB (ag (jV 0) (ag (jC (.int 0)) ai))) (jC (.int 2))))
 (au (aE 4 (ah aC (a9 (ag (ah bp (jC (.int 1)) (ah bt (jV 2) (jC (.int 11)))) (ag (ah aC (a9 (ag (jC (.int 3)) (ag (jC (.int 3)) (ag (jC (.int 3)) (ag (jC (.int 3)) (ag (jC (.int 3)) (ag (jC (.int 3)) (ag (jC (.int 3)) (ag (jC (.int 11)) ai))))))))) (ah bt (jV 2) (jC (.int 8)))) ai))) (jV 3)))
 (au (aE 5 (ah aC (a9 (ag (ah cW (ah kW (jC (.int 2)) (jC (.int 64))) (jC (.int 64))) (ag (jC (.int 4096)) ai))) (jV 3)))
 (au (aE 2 (ah cv (jV 2) (jC (.int 88))))
 (au (aE 6 (a9 ai))
 (au (b4 (dw (ag (jV 4) ai)) (gN 7)
  qj)
 (aN (jV 6)))))))))
def qy:Ur:=fn 9 Ah
def Gh:C.Dd:=⟨"_law_pool",top 61,["_law_script", "_law_names_here"],["_law_script", "_law_names_here", "_law_cell_here", "_law_mode", "_law_size", "_law_wide", "_law_pool_here", "_law_k", "_law_one"],2,none,(.c (.l (.st 2 (.ca 5 (.c (.v 0) (.c (.ki 1) .n))))) (.c (.l (.st 3 (.bo .mod (.ca 8 (.c (.v 0) (.c (.ki 0) .n))) (.ki 2)))) (.c (.l (.st 4 (.ix (.li (.c (.bo .add (.ki 1) (.bo .mod (.v 2) (.ki 11))) (.c (.ix (.li (.c (.ki 3) (.c (.ki 3) (.c (.ki 3) (.c (.ki 3) (.c (.ki 3) (.c (.ki 3) (.c (.ki 3) (.c (.ki 11) .n))))))))) (.bo .mod (.v 2) (.ki 8))) .n))) (.v 3)))) (.c (.l (.st 5 (.ix (.li (.c (.bo .mul (.bo .pow (.ki 2) (.ki 64)) (.ki 64)) (.c (.ki 4096) .n))) (.v 3)))) (.c (.l (.st 2 (.bo .div (.v 2) (.ki 88)))) (.c (.l (.st 6 (.li .n))) (.c (.fo (.r1 (.c (.v 4) .n)) (.n 7) (.c (.ie (.c .eq (.v 3) (.ki 1)) (.o (.l (.st 2 (.ca 6 (.c (.v 2) (.c (.v 7) .n)))))) .n) (.c (.l (.st 8 (.ca 0 (.c (.bo .mod (.bo .div (.v 2) (.ki 8)) (.v 5)) (.c (.v 1) .n))))) (.c (.l (.ap 6 (.tu (.c (.ix (.ks "+-*&|^<=") (.bo .mod (.v 2) (.ki 8))) (.c (.v 8) (.c (.ca 0 (.c (.bo .mod (.bo .div (.bo .div (.v 2) (.ki 8)) (.v 5)) (.v 5)) (.c (.v 1) .n))) .n)))))) (.o (.ie (.c .eq (.v 3) (.ki 0)) (.o (.l (.st 2 (.bo .div (.bo .div (.bo .div (.v 2) (.ki 8)) (.v 5)) (.v 5))))) .n)))))) (.o (.l (.rt (.v 6))))))))))),none⟩
def Sg:=C.bM (d:=Gh) (F:=qy) e9 rfl rfl rfl
def AI:Ul :=
 (au (aE 5 (ah bt (jV 0) (jC (.int 14))))
 (au (aE 6 (ah cv (jV 0) (jC (.int 14))))
 (au (aU (jB (ah g0 (jV 5) (jC (.int 6))))
  (aN (ah bp (bG (ag (jC (.str "reckon")) (ag (ah aC (jV 3) (ah bt (jV 6) (jC (.int 5)))) ai))) (ah aC (jV 4) (ah bt (ah cv (jV 6) (jC (.int 5))) (bY cA (ag (jV 4) ai))))))
  bj)
 (au (aU (jB (ah g0 (jV 5) (jC (.int 8))))
  (aN (bG (ag (jC (.str "copy")) (ag (ah aC (jV 3) (ah bt (jV 6) (jC (.int 5)))) (ag (aJ jn (ag (ah cv (jV 6) (jC (.int 5))) (ag (jV 3) ai))) ai)))))
  bj)
 (au (aU (jB (ah g0 (jV 5) (jC (.int 10))))
  (aN (bG (ag (jC (.str "say")) (ag (aJ jn (ag (jV 6) (ag (jV 3) ai))) ai))))
  bj)
 (au (aU (fC (jB (ah g0 (jV 5) (jC (.int 12)))) (jB (ah uL (jV 2) (jC (.int 1)))))
  (aN (bG (ag (jC (.str "part")) (ag (aJ jn (ag (ah cv (jV 6) (ah gP (jV 2) (jC (.int 1)))) (ag (jV 3) ai))) (ag (ah bt (ah bp (ah bp (jV 1) (jC (.int 2))) (ah bt (jV 6) (ah gP (jV 2) (jC (.int 1))))) (jV 2)) ai)))))
  bj)
 (au (aU (jB (ah bA (jV 5) (jC (.int 12))))
  (aN (bG (ag (jC (.str "go")) (ag (ah bt (jV 6) (jV 2)) ai))))
  bj)
 (aN (bG (ag (jC (.str "end")) ai))))))))))
def nF:Ur:=fn 7 AI
def Gi:C.Dd:=⟨"_law_row",top 62,["_law_cell_here", "_law_n", "_law_many", "_law_names_here", "_law_pool_here"],["_law_cell_here", "_law_n", "_law_many", "_law_names_here", "_law_pool_here", "_law_kind", "_law_rest"],1,none,(.c (.l (.st 5 (.bo .mod (.v 0) (.ki 14)))) (.c (.l (.st 6 (.bo .div (.v 0) (.ki 14)))) (.c (.ie (.c .lt (.v 5) (.ki 6)) (.o (.l (.rt (.bo .add (.tu (.c (.ks "reckon") (.c (.ix (.v 3) (.bo .mod (.v 6) (.ki 5))) .n))) (.ix (.v 4) (.bo .mod (.bo .div (.v 6) (.ki 5)) (.fb .len (.c (.v 4) .n)))))))) .n) (.c (.ie (.c .lt (.v 5) (.ki 8)) (.o (.l (.rt (.tu (.c (.ks "copy") (.c (.ix (.v 3) (.bo .mod (.v 6) (.ki 5))) (.c (.ca 1 (.c (.bo .div (.v 6) (.ki 5)) (.c (.v 3) .n))) .n))))))) .n) (.c (.ie (.c .lt (.v 5) (.ki 10)) (.o (.l (.rt (.tu (.c (.ks "say") (.c (.ca 1 (.c (.v 6) (.c (.v 3) .n))) .n)))))) .n) (.c (.ie (.an (.c .lt (.v 5) (.ki 12)) (.c .gt (.v 2) (.ki 1))) (.o (.l (.rt (.tu (.c (.ks "part") (.c (.ca 1 (.c (.bo .div (.v 6) (.bo .sub (.v 2) (.ki 1))) (.c (.v 3) .n))) (.c (.bo .mod (.bo .add (.bo .add (.v 1) (.ki 2)) (.bo .mod (.v 6) (.bo .sub (.v 2) (.ki 1)))) (.v 2)) .n))))))) .n) (.c (.ie (.c .eq (.v 5) (.ki 12)) (.o (.l (.rt (.tu (.c (.ks "go") (.c (.bo .mod (.v 6) (.v 2)) .n)))))) .n) (.o (.l (.rt (.tu (.c (.ks "end") .n)))))))))))),none⟩
def Sh:=C.bM (d:=Gi) (F:=nF) Sg rfl rfl rfl
def zM:Ul :=
 (au (aE 3 (ah bp (jC (.int 1)) (ah bt (ah cv (aJ gB (ag (jV 0) (ag (jC (.int 0)) ai))) (jC (.int 2))) (jV 2))))
 (au (aE 4 (aJ qy (ag (jV 0) (ag (jV 1) ai))))
 (wx qi (jH (dw (ag (jV 3) ai)) [3,1,4,0] ia (aJ nF (ag (aJ lM (ag (jV 4) (ag (ah bp (jC (.int 6)) (jV 0)) ai))) (ag (jV 0) (ag (jV 1) (ag (jV 2) (ag (jV 3) ai))))))))))
def qe:Ur:=fn 5 zM
def Gj:C.Dd:=⟨"_law_program",top 67,["_law_script", "_law_names_here", "_law_most"],["_law_script", "_law_names_here", "_law_most", "_law_many", "_law_pool_here"],3,none,(.c (.l (.st 3 (.bo .add (.ki 1) (.bo .mod (.bo .div (.ca 10 (.c (.v 0) (.c (.ki 0) .n))) (.ki 2)) (.v 2))))) (.c (.l (.st 4 (.ca 1 (.c (.v 0) (.c (.v 1) .n))))) (.o (.l (.rU 3 (.cp (.r1 (.c (.v 3) .n)) [3,1,4,0] .y (.ca 0 (.c (.ca 7 (.c (.v 4) (.c (.bo .add (.ki 6) (.v 0)) .n))) (.c (.v 0) (.c (.v 1) (.c (.v 2) (.c (.v 3) .n)))))))))))),none⟩
def Si:=C.bM (d:=Gj) (F:=qe) Sh rfl rfl rfl
def zI:Ul :=
 (au (aU (jB (ah bA (ah aC (jV 0) (jC (.int 0))) (jC (.str "reckon"))))
  (aN (bG (ag (ah aC (jV 0) (jC (.int 2))) (ag (ah aC (jV 0) (jC (.int 3))) (ag (ah aC (jV 0) (jC (.int 4))) ai)))))
  bj)
 (aN (jC .non)))
def j9:Ur:=fn 1 zI
def Gk:C.Dd:=⟨"reckoning_of",top 6,["row"],["row"],0,none,(.c (.ie (.c .eq (.ix (.v 0) (.ki 0)) (.ks "reckon")) (.o (.l (.rt (.tu (.c (.ix (.v 0) (.ki 2)) (.c (.ix (.v 0) (.ki 3)) (.c (.ix (.v 0) (.ki 4)) .n))))))) .n) (.o (.l (.rt .kn)))),none⟩
def Sj:=C.bM (d:=Gk) (F:=j9) Si rfl rfl rfl
def AJ:Ul :=
 (au (aE 2 (ah aC (jV 1) (jC (.int 0))))
 (au (aE 3 (ah aC (jV 1) (jC (.int 1))))
 (au (aU (jB (ah bA (jV 2) (jC (.str "own"))))
  (aN (a9 (ag (jV 0) ai)))
  bj)
 (au (aE 4 (bG (ag (jC (.str "copy")) (ag (ah aC (jV 0) (jC (.int 1))) (ag (jV 3) ai)))))
 (au (aU (jB (ah bA (jV 2) (jC (.str "read"))))
  (aN (a9 (ag (jV 4) ai)))
  bj)
 (aN (a9 (ag (ah bp (bG (ag (jC (.str "reckon")) (ag (jV 3) ai))) (aJ j9 (ag (jV 0) ai))) (ag (jV 4) ai)))))))))
def qH:Ur:=fn 5 AJ
def Gm:C.Dd:=⟨"done_as",top 53,["row", "how_and_box"],["row", "how_and_box", "how", "box", "copied"],1,none,(.c (.l (.st 2 (.ix (.v 1) (.ki 0)))) (.c (.l (.st 3 (.ix (.v 1) (.ki 1)))) (.c (.ie (.c .eq (.v 2) (.ks "own")) (.o (.l (.rt (.li (.c (.v 0) .n))))) .n) (.c (.l (.st 4 (.tu (.c (.ks "copy") (.c (.ix (.v 0) (.ki 1)) (.c (.v 3) .n)))))) (.c (.ie (.c .eq (.v 2) (.ks "read")) (.o (.l (.rt (.li (.c (.v 4) .n))))) .n) (.o (.l (.rt (.li (.c (.bo .add (.tu (.c (.ks "reckon") (.c (.v 3) .n))) (.ca 0 (.c (.v 0) .n))) (.c (.v 4) .n))))))))))),none⟩
def Sl:=C.bM (d:=Gm) (F:=qH) Sj rfl rfl rfl
def Ai:Ul :=
 (au (aU (jB (ah bA (ah aC (jV 1) (jC (.int 0))) (jC (.str "go"))))
  (aN (ah bp (jD (jV 2) (bG (ag (jV 0) (ag (ah aC (jV 1) (jC (.int 1))) ai))) (a9 ai)) (a9 (ag (jV 1) ai))))
  bj)
 (aN (ah bp (aJ qH (ag (jV 1) (ag (rC (jV 3) (jV 0) (bG (ag (jC (.str "own")) (ag (jC .non) ai)))) ai))) (jD (jV 2) (bG (ag (jV 0) (ag (ah bp (jV 0) (jC (.int 1))) ai))) (a9 ai)))))
def qz:Ur:=fn 4 Ai
def Gn:C.Dd:=⟨"block_of",top 52,["n", "row", "kept", "hows"],["n", "row", "kept", "hows"],2,none,(.c (.ie (.c .eq (.ix (.v 1) (.ki 0)) (.ks "go")) (.o (.l (.rt (.bo .add (.iC (.v 2) (.tu (.c (.v 0) (.c (.ix (.v 1) (.ki 1)) .n))) (.li .n)) (.li (.c (.v 1) .n)))))) .n) (.o (.l (.rt (.bo .add (.ca 0 (.c (.v 1) (.c (.g2 (.v 3) (.v 0) (.tu (.c (.ks "own") (.c .kn .n)))) .n))) (.iC (.v 2) (.tu (.c (.v 0) (.c (.bo .add (.v 0) (.ki 1)) .n))) (.li .n))))))),none⟩
def Sn:=C.bM (d:=Gn) (F:=qz) Sl rfl rfl rfl
def vo:Ul :=
 (aU (fC (jB (ah bA (ah aC (jV 6) (jC (.int 0))) (jC (.str "part")))) (jB (oE false (bG (ag (jV 5) (ag (ah aC (jV 6) (jC (.int 2))) ai))) (jV 1))))
  (au g9
 g9)
  (dM 3 (aJ qz (ag (jV 5) (ag (jV 6) (ag (jV 1) (ag (jV 2) ai)))))))
def zX:Ul :=
 (au (aE 3 (a9 ai))
 (au (aE 4 (a9 ai))
 (au (dq 0 (b4 (fh (ag (jV 0) ai)) (gT 2 (b6 (gN 5) (b6 (gN 6) fw)))
  vo))
 (aN (ah bp (jV 3) (jV 4))))))
def qu:Ur:=fn 7 zX
def Gp:C.Dd:=⟨"blocks_of",top 51,["program", "kept", "hows"],["program", "kept", "hows", "blocks", "asides", "n", "row"],3,none,(.c (.l (.st 3 (.li .n))) (.c (.l (.st 4 (.li .n))) (.c (.fz 0 (.fo (.en (.c (.v 0) .n)) (.t 2 (.c (.n 5) (.c (.n 6) .n))) (.o (.ie (.an (.c .eq (.ix (.v 6) (.ki 0)) (.ks "part")) (.t false (.tu (.c (.v 5) (.c (.ix (.v 6) (.ki 2)) .n))) (.v 1))) (.c (.l .nv) (.o (.l .nv))) (.o (.l (.ap 3 (.ca 0 (.c (.v 5) (.c (.v 6) (.c (.v 1) (.c (.v 2) .n)))))))))))) (.o (.l (.rt (.bo .add (.v 3) (.v 4)))))))),none⟩
def Sq:=C.bM (d:=Gp) (F:=qu) Sn rfl rfl rfl
def qa:Ul :=
 (au (aE 3 (aJ j9 (ag (jV 2) ai)))
 (aU (jB (ah ku (jV 3) (jC .non)))
  (rY 1 (jV 3) (jC (.bl true)))
  bj))
def zP:Ul :=
 (au (aE 1 rX)
 (au (dq 0 (b4 (cN (jV 0)) (gN 2)
  qa))
 (aN (bY nU (ag (jV 1) ai)))))
def kc:Ur:=fn 4 zP
def Gq:C.Dd:=⟨"reckonings",top 13,["program"],["program", "told", "row", "reckoning"],1,none,(.c (.l (.st 1 .dT)) (.c (.fz 0 (.fo (.l (.v 0)) (.n 2) (.c (.l (.st 3 (.ca 3 (.c (.v 2) .n)))) (.o (.ie (.c .lB (.v 3) .kn) (.o (.l (.tp 1 (.v 3) (.kb true)))) .n))))) (.o (.l (.rt (.fb .sf (.c (.v 1) .n))))))),none⟩
def Sr:=C.bM (d:=Gq) (F:=kc) Sq rfl rfl rfl
def zE:Ul :=
 (au (aE 2 (ah aC (aJ kc (ag (jV 0) ai)) (jV 1)))
 (aN (wq (fh (ag (jV 0) ai)) [2] (jB (ah mK (aJ j9 (ag (jV 1) ai)) (jV 2))) (jV 0))))
def p9:Ur:=fn 3 zE
def Gr:C.Dd:=⟨"rows_that_reckon",top 14,["program", "k"],["program", "k", "reckoning"],2,none,(.c (.l (.st 2 (.ix (.ca 0 (.c (.v 0) .n)) (.v 1)))) (.o (.l (.rt (.c2 (.en (.c (.v 0) .n)) [2] (.c .uV (.ca 4 (.c (.v 1) .n)) (.v 2)) (.v 0)))))),none⟩
def Ss:=C.bM (d:=Gr) (F:=p9) Sr rfl rfl rfl
def B3:Ul :=
 (aN (bG (ag (bG ai) (ag (bY rD (ag (jH (cN (aJ p9 (ag (jV 0) (ag (jV 1) ai)))) [] ia (bG (ag (jV 0) (ag (jC (.str "own")) ai)))) ai)) ai))))
def lP:Ur:=fn 2 B3
def Gu:C.Dd:=⟨"still",top 44,["program", "k"],["program", "k"],3,none,(.o (.l (.rt (.tu (.c (.tu .n) (.c (.fb .tuple (.c (.cp (.l (.ca 0 (.c (.v 0) (.c (.v 1) .n)))) [] .y (.tu (.c (.v 0) (.c (.ks "own") .n)))) .n)) .n)))))),none⟩
def Sv:=C.bM (d:=Gu) (F:=lP) Ss rfl rfl rfl
def zF:Ul :=
 (kH 1 (jV 2) (jC (.bl true)))
def zJ:Ul :=
 (au (aE 1 lV)
 (au (dq 0 (b4 (uO (jV 0)) (gN 2)
  zF))
 (aN (jV 1))))
def nA:Ur:=fn 3 zJ
def Gw:C.Dd:=⟨"truths_of",top 16,["things"],["things", "told", "thing"],0,none,(.c (.l (.st 1 .dK)) (.c (.fz 0 (.fo (.t (.v 0)) (.n 2) (.o (.l (.dp 1 (.v 2) (.kb true)))))) (.o (.l (.rt (.v 1)))))),none⟩
def Sw:=C.bM (d:=Gw) (F:=nA) Sv rfl rfl rfl
def zQ:Ul :=
 (xF 1 (aJ nA (ag (jV 2) ai)))
def Aj:Ul :=
 (au (aE 1 lV)
 (au (dq 0 (b4 (cN (jV 0)) (gN 2)
  zQ))
 (aN (jV 1))))
def qA:Ur:=fn 3 Aj
def Gx:C.Dd:=⟨"words_in",top 48,["program"],["program", "told", "row"],1,none,(.c (.l (.st 1 .dK)) (.c (.fz 0 (.fo (.l (.v 0)) (.n 2) (.o (.l (.ud 1 (.ca 0 (.c (.v 2) .n))))))) (.o (.l (.rt (.v 1)))))),none⟩
def Sx:=C.bM (d:=Gx) (F:=qA) Sw rfl rfl rfl
def vq:Ul :=
 (aU (gx (jB (ah mD (jV 6) (jC .non))) (jB (ah gj (jV 6) (aJ lP (ag (jV 0) (ag (jV 5) ai))))))
  (dM 4 (jC .non))
  (au g9
 (au g9
 g9)))
def Ak:Ul :=
 (au (aE 2 (aJ qA (ag (jV 0) ai)))
 (au (aE 3 (jC (.int 0)))
 (au (aE 4 (a9 ai))
 (au (dq 1 (b4 (fh (ag (jV 1) ai)) (gT 2 (b6 (gN 5) (b6 (gN 6) fw)))
  vq))
 (aN (jV 4))))))
def qB:Ur:=fn 7 Ak
def Gy:C.Dd:=⟨"boxes_of",top 47,["program", "papers"],["program", "papers", "taken", "number", "told", "k", "one"],4,none,(.c (.l (.st 2 (.ca 0 (.c (.v 0) .n)))) (.c (.l (.st 3 (.ki 0))) (.c (.l (.st 4 (.li .n))) (.c (.fz 1 (.fo (.en (.c (.v 1) .n)) (.t 2 (.c (.n 5) (.c (.n 6) .n))) (.o (.ie (.or (.c .eZ (.v 6) .kn) (.c .pW (.v 6) (.ca 2 (.c (.v 0) (.c (.v 5) .n))))) (.o (.l (.ap 4 .kn))) (.c (.l .nv) (.c (.l .nv) (.o (.l .nv)))))))) (.o (.l (.rt (.v 4)))))))),none⟩
def Sy:=C.bM (d:=Gy) (F:=qB) Sx rfl rfl rfl
def zY:Ul :=
 (aU (jB (ah ku (jV 4) (jC .non)))
  g9
  bj)
def AK:Ul :=
 (au (aE 2 lV)
 (au (dq 1 (b4 (fh (ag (jV 1) ai)) (gT 2 (b6 (gN 3) (b6 (gN 4) fw)))
  zY))
 (aN (jV 2))))
def qI:Ur:=fn 7 AK
def Gz:C.Dd:=⟨"hows_of",top 50,["papers", "boxes"],["papers", "boxes", "told", "k", "box", "n", "how"],0,none,(.c (.l (.st 2 .dK)) (.c (.fz 1 (.fo (.en (.c (.v 1) .n)) (.t 2 (.c (.n 3) (.c (.n 4) .n))) (.o (.ie (.c .lB (.v 4) .kn) (.o (.l .nv)) .n)))) (.o (.l (.rt (.v 2)))))),none⟩
def Sz:=C.bM (d:=Gz) (F:=qI) Sy rfl rfl rfl
def zZ:Ul :=
 (au (aU (jB (ah bA (ah aC (jV 0) (jC (.int 0))) (jC (.str "go"))))
  (aN (ah aC (jV 0) (jC (.int 1))))
  bj)
 (au (aU (jB (ah bA (ah aC (jV 0) (jC (.int 0))) (jC (.str "part"))))
  (aN (ah aC (jV 0) (jC (.int 2))))
  bj)
 (aN (jC .non))))
def qv:Ur:=fn 1 zZ
def GA:C.Dd:=⟨"target_of",top 4,["row"],["row"],0,none,(.c (.ie (.c .eq (.ix (.v 0) (.ki 0)) (.ks "go")) (.o (.l (.rt (.ix (.v 0) (.ki 1))))) .n) (.c (.ie (.c .eq (.ix (.v 0) (.ki 0)) (.ks "part")) (.o (.l (.rt (.ix (.v 0) (.ki 2))))) .n) (.o (.l (.rt .kn))))),none⟩
def SD:=C.bM (d:=GA) (F:=qv) Sz rfl rfl rfl
def zN:Ul :=
 (au (aU (jB (ah bA (ah aC (jV 0) (jC (.int 0))) (jC (.str "go"))))
  (aN (bG (ag (jC (.str "go")) (ag (jV 1) ai))))
  bj)
 (aN (bG (ag (jC (.str "part")) (ag (ah aC (jV 0) (jC (.int 1))) (ag (jV 1) ai))))))
def qf:Ur:=fn 2 zN
def GB:C.Dd:=⟨"with_target",top 5,["row", "to"],["row", "to"],0,none,(.c (.ie (.c .eq (.ix (.v 0) (.ki 0)) (.ks "go")) (.o (.l (.rt (.tu (.c (.ks "go") (.c (.v 1) .n)))))) .n) (.o (.l (.rt (.tu (.c (.ks "part") (.c (.ix (.v 0) (.ki 1)) (.c (.v 1) .n)))))))),none⟩
def SF:=C.bM (d:=GB) (F:=qf) SD rfl rfl rfl
def qC:Ul :=
 (au (dM 2 (jV 3))
 (aE 3 (ah bp (jV 3) (bY cA (ag (jV 4) ai)))))
def qD:Ul :=
 (au (aE 7 (aJ qv (ag (jV 6) ai)))
 (dM 5 (tm (jB (ah mD (jV 7) (jC .non))) (jV 6) (aJ qf (ag (jV 6) (ag (ah aC (jV 2) (jV 7)) ai))))))
def vw:Ul :=
 (dq 4 (b4 (cN (jV 4)) (gN 6)
  qD))
def A9:Ul :=
 (au (aE 2 (a9 ai))
 (au (aE 3 (bY cA (ag (jV 0) ai)))
 (au (dq 1 (b4 (cN (jV 1)) (gN 4)
  qC))
 (au (aE 5 (bY ml (ag (jV 0) ai)))
 (au (dq 1 (b4 (cN (jV 1)) (gN 4)
  vw))
 (aN (jV 5)))))))
def qT:Ur:=fn 8 A9
def GC:C.Dd:=⟨"joined",top 54,["ahead", "blocks"],["ahead", "blocks", "starts", "size", "block", "told", "row", "to"],1,none,(.c (.l (.st 2 (.li .n))) (.c (.l (.st 3 (.fb .len (.c (.v 0) .n)))) (.c (.fz 1 (.fo (.l (.v 1)) (.n 4) (.c (.l (.ap 2 (.v 3))) (.o (.l (.st 3 (.bo .add (.v 3) (.fb .len (.c (.v 4) .n))))))))) (.c (.l (.st 5 (.fb .list (.c (.v 0) .n)))) (.c (.fz 1 (.fo (.l (.v 1)) (.n 4) (.o (.fz 4 (.fo (.l (.v 4)) (.n 6) (.c (.l (.st 7 (.ca 1 (.c (.v 6) .n)))) (.o (.l (.ap 5 (.ie (.c .eZ (.v 7) .kn) (.v 6) (.ca 0 (.c (.v 6) (.c (.ix (.v 2) (.v 7)) .n))))))))))))) (.o (.l (.rt (.v 5))))))))),none⟩
def SG:=C.bM (d:=GC) (F:=qT) SF rfl rfl rfl
def qg:Ul :=
 (aU (jB (ah ku (ah aC (jV 2) (jV 4)) (jC .non)))
  g9
  bj)
def z0:Ul :=
 (au (aE 3 rX)
 (au (b4 (fh (ag (aJ kc (ag (jV 0) ai)) ai)) (gT 2 (b6 (gN 4) (b6 (gN 5) fw)))
  qg)
 (aN (jV 3))))
def qw:Ur:=fn 7 z0
def GD:C.Dd:=⟨"kept_rows",top 49,["program", "papers", "boxes"],["program", "papers", "boxes", "told", "k", "reckoning", "place"],2,none,(.c (.l (.st 3 .dT)) (.c (.fo (.en (.c (.ca 9 (.c (.v 0) .n)) .n)) (.t 2 (.c (.n 4) (.c (.n 5) .n))) (.o (.ie (.c .lB (.ix (.v 2) (.v 4)) .kn) (.o (.l .nv)) .n))) (.o (.l (.rt (.v 3)))))),none⟩
def SJ:=C.bM (d:=GD) (F:=qw) SG rfl rfl rfl
def Ba:Ul :=
 (aU (jB (ah ku (jV 4) (jC .non)))
  g9
  bj)
def Dj:Ul :=
 (au (aE 2 (aJ qB (ag (jV 0) (ag (jV 1) ai))))
 (au (dq 2 (b4 (fh (ag (jV 2) ai)) (gT 2 (b6 (gN 3) (b6 (gN 4) fw)))
  Ba))
 (au (aE 5 (aJ qw (ag (jV 0) (ag (jV 1) (ag (jV 2) ai)))))
 (aN (aJ qT (ag (jD (jV 5) (bG (ag (eY gf (jC (.int 1))) (ag (jC (.int 0)) ai))) (a9 ai)) (ag (aJ qu (ag (jV 0) (ag (jV 5) (ag (aJ qI (ag (jV 1) (ag (jV 2) ai))) ai)))) ai)))))))
def nX:Ur:=fn 6 Dj
def GF:C.Dd:=⟨"laid",top 46,["program", "papers"],["program", "papers", "boxes", "k", "box", "kept"],5,none,(.c (.l (.st 2 (.ca 5 (.c (.v 0) (.c (.v 1) .n))))) (.c (.fz 2 (.fo (.en (.c (.v 2) .n)) (.t 2 (.c (.n 3) (.c (.n 4) .n))) (.o (.ie (.c .lB (.v 4) .kn) (.o (.l .nv)) .n)))) (.c (.l (.st 5 (.ca 0 (.c (.v 0) (.c (.v 1) (.c (.v 2) .n)))))) (.o (.l (.rt (.ca 1 (.c (.iC (.v 5) (.tu (.c (.uo .neg (.ki 1)) (.c (.ki 0) .n))) (.li .n)) (.c (.ca 11 (.c (.v 0) (.c (.v 5) (.c (.ca 4 (.c (.v 1) (.c (.v 2) .n))) .n)))) .n))))))))),none⟩
def SK:=C.bM (d:=GF) (F:=nX) SJ rfl rfl rfl
def B4:Ul :=
 (dM 4 (ah aC (a9 (ag (jC .non) (ag (aJ lP (ag (jV 2) (ag (jV 5) ai))) ai))) (ah bt (ah cv (aJ gB (ag (jV 0) (ag (jC (.int 5)) ai))) (ah bp (jV 5) (jC (.int 1)))) (jC (.int 2)))))
def D9:Ul :=
 (au (aE 1 (aJ qm (ag (aJ gB (ag (jV 0) (ag (jC (.int 3)) ai))) (ag (aJ gB (ag (jV 0) (ag (jC (.int 4)) ai))) ai))))
 (au (aE 2 (aJ qe (ag (jV 0) (ag (jV 1) (ag (jC (.int 16)) ai)))))
 (au (aE 3 (bY ml (ag (jV 2) ai)))
 (au (aE 4 (a9 ai))
 (au (b4 (dw (ag (bY cA (ag (aJ kc (ag (jV 2) ai)) ai)) ai)) (gN 5)
  B4)
 (au (aE 6 (aJ nX (ag (jV 2) (ag (jV 4) ai))))
 (au (aU (gx (oA (jB (bY mE (ag (jV 6) (ag (jC (.ty "list")) ai))))) (gx (jB (ah dA (jV 6) (jV 3))) (jB (ah dA (jV 2) (jV 3)))))
  (aN (jC (.bl false)))
  bj)
 (au (dM 6 (bG (ag (jC (.str "end")) ai)))
 (au (dM 2 (bG (ag (jC (.str "say")) (ag (jC (.int 1)) ai))))
 (aN (oz (ah gj (aJ nX (ag (jV 3) (ag (jV 4) ai))) (jV 3)) (ah bA (bY cA (ag (jV 6) ai)) (ah bp (bY cA (ag (jV 3) ai)) (jC (.int 1)))))))))))))))
def sr:Ur:=fn 7 D9
def GH:C.Dd:=⟨"law",top 68,["_law_script"],["_law_script", "_law_names_here", "_law_program_here", "_law_kept", "_law_papers", "_law_k", "_law_found"],6,none,(.c (.l (.st 1 (.ca 26 (.c (.ca 27 (.c (.v 0) (.c (.ki 3) .n))) (.c (.ca 27 (.c (.v 0) (.c (.ki 4) .n))) .n))))) (.c (.l (.st 2 (.ca 16 (.c (.v 0) (.c (.v 1) (.c (.ki 16) .n)))))) (.c (.l (.st 3 (.fb .list (.c (.v 2) .n)))) (.c (.l (.st 4 (.li .n))) (.c (.fo (.r1 (.c (.fb .len (.c (.ca 11 (.c (.v 2) .n)) .n)) .n)) (.n 5) (.o (.l (.ap 4 (.ix (.li (.c .kn (.c (.ca 9 (.c (.v 2) (.c (.v 5) .n))) .n))) (.bo .mod (.bo .div (.ca 27 (.c (.v 0) (.c (.ki 5) .n))) (.bo .add (.v 5) (.ki 1))) (.ki 2))))))) (.c (.l (.st 6 (.ca 0 (.c (.v 2) (.c (.v 4) .n))))) (.c (.ie (.or (.nt (.b (.fb .uW (.c (.v 6) (.c (.ty "list") .n))))) (.or (.c .i9 (.v 6) (.v 3)) (.c .i9 (.v 2) (.v 3)))) (.o (.l (.rt (.kb false)))) .n) (.c (.l (.ap 6 (.tu (.c (.ks "end") .n)))) (.c (.l (.ap 2 (.tu (.c (.ks "say") (.c (.ki 1) .n))))) (.o (.l (.rt (.an (.co .pW (.ca 0 (.c (.v 3) (.c (.v 4) .n))) (.v 3)) (.co .eq (.fb .len (.c (.v 6) .n)) (.bo .add (.fb .len (.c (.v 3) .n)) (.ki 1)))))))))))))))),none⟩
def SM:=C.bM (d:=GH) (F:=sr) SK rfl rfl rfl
def xK:List C.Dd:=[GH,GF,GD,GC,GB,GA,Gz,Gy,Gx,Gw,Gu,Gr,Gq,Gp,Gn,Gm,Gk,Gj,Gi,Gh,d9,d8,d7,d6,d5,d4,d3,d2,d1]
def ok:C.sk bs gs xK=true:=by decide +kernel
def ba:C.vb xK:=⟨C.jj λ_ _ _ _ _ _ _=>rfl,C.dX λ_ _ _ _ _ _ _ _=>rfl,C.zo λ_ _ _ _ _ _ _ _ _=>rfl,C.dX λ_ _ _ _ _ _ _ _=>rfl,C.dX λ_ _ _ _ _ _ _ _=>rfl,C.jj λ_ _ _ _ _ _ _=>rfl,C.dX λ_ _ _ _ _ _ _ _=>rfl,C.dX λ_ _ _ _ _ _ _ _=>rfl,C.jj λ_ _ _ _ _ _ _=>rfl,C.jj λ_ _ _ _ _ _ _=>rfl,C.dX λ_ _ _ _ _ _ _ _=>rfl,C.dX λ_ _ _ _ _ _ _ _=>rfl,C.jj λ_ _ _ _ _ _ _=>rfl,C.zo λ_ _ _ _ _ _ _ _ _=>rfl,C.Sd λ_ _ _ _ _ _ _ _ _ _=>rfl,C.dX λ_ _ _ _ _ _ _ _=>rfl,C.jj λ_ _ _ _ _ _ _=>rfl,C.zo λ_ _ _ _ _ _ _ _ _=>rfl,C.Se λ_ _ _ _ _ _ _ _ _ _ _=>rfl,C.dX λ_ _ _ _ _ _ _ _=>rfl,C.dX λ_ _ _ _ _ _ _ _=>rfl,C.jj λ_ _ _ _ _ _ _=>rfl,C.jj λ_ _ _ _ _ _ _=>rfl,C.jj λ_ _ _ _ _ _ _=>rfl,C.dX λ_ _ _ _ _ _ _ _=>rfl,C.dX λ_ _ _ _ _ _ _ _=>rfl,C.dX λ_ _ _ _ _ _ _ _=>rfl,C.dX λ_ _ _ _ _ _ _ _=>rfl,C.dX λ_ _ _ _ _ _ _ _=>rfl,trivial⟩
end aY
namespace aY
open PySem L2 J
local macro_rules|`($m \ $x)=>`(some ($m,$x))
local macro_rules|`($f∘$x)=>`(D.lst (($x).map $f))
local macro_rules|`(↥$x)=>`(D.int (($x):Int))
local macro_rules|`(tactic|simp! [$xs,*])=>`(tactic|simp -implicitDefEqProofs only [$xs,*])
local macro_rules|`(tactic|simp! [$xs,*]$l:location)=>`(tactic|simp -implicitDefEqProofs only [$xs,*]$l:location)
local macro_rules|`(∅)=>`((by omega))
def gz{α:Type}{a:α}{l:List α}:(a::l)[0]?=some a:=rfl
def gy{α:Type}{a:α}{l:List α}{i:Nat}:(a::l)[i+1]?=l[i]?:=List.getElem?_cons_succ
def oq{α β:Type}{a:α}{f:α→Option β}:(some a).bind f=f a:=rfl
def tz{α:Type}{a b:α}{l:List α}:(a::l).set 0 b=b::l:=rfl
def tq{α:Type}{a b:α}{l:List α}{i:Nat}:(a::l).set (i+1) b=a::l.set i b:=rfl
def mq{α β:Type}{a:α}{l:List α}{f:α→β}:(a::l).map f=f a::l.map f:=rfl
def mn{α β:Type}{f:α→β}:[].map f=[]:=rfl
def oy{α β:Type}{a:α}{f:α→β}:(some a).map f=some (f a):=rfl
def ln{α β:Type}{l:List α}{f:α→β}:(l.map f).length=l.length:=dC _
def bW{d:D}{ds:Ut}{n:Nat}:((d::ds).map (λd=>some (M.al,d))++List.replicate (n+1-(d::ds).length) none:Ev)=.al\d::(ds.map (λd=>some (M.al,d))++List.replicate (n-ds.length) none):=by simp
def aR{n:Nat}:(([]:Ut).map (λd=>some (M.al,d))++List.replicate (n+1-([]:Ut).length) none:Ev)=none::(([]:Ut).map (λd=>some (M.al,d))++List.replicate (n-([]:Ut).length) none):=rfl
def aZ:(([]:Ut).map (λd=>some (M.al,d))++List.replicate (0-([]:Ut).length) none:Ev)=[]:=rfl
def an{a b:Prop}(x:a)(y:b):a∧b:=⟨x,y⟩
def SN :=
 an @dH<|an @hX<|an @Pl<|an @DU<|an @b7<|an @iK<|an @eC<|an @DV<|an @rR<|an @rS<|an @DW<|an @rT<|an @Pq<|an @DX<|an @Ni<|an @BK<|an @K3<|an @K4<|an @Nj<|an @CZ<|an @Nk<|an @C0<|an @Nm<|an @Qo<|an @Qp<|an @C1<|an @Nn<|an @Np<|an @Nq<|an @Bool.and_self<|an @Bool.and_true<|an @Bool.true_and<|an @Bool.false_eq_true<|an @decide_true<|an @decide_false<|an @Bool.not_true<|an @Bool.not_false<|an @Rj<|an @mul_r<|an @bq<|an @div_ii<|an @Pm<|an @Hk<|an @G7<|an @au.eq_1<|an @aU.eq_1<|an @jB.eq_1<|an @ah.eq_1<|an @eY.eq_1<|an @jV.eq_1<|an @bY.eq_1<|an @ag.eq_1<|an @ai.eq_1<|an @aN.eq_1<|an @aE.eq_1<|an @bj.eq_1<|an @jC.eq_1<|an @aJ.eq_1<|an @oz.eq_1<|an @yN.eq_1<|an @xj.eq_1<|an @fC.eq_1<|an @gx.eq_1<|an @oA.eq_1<|an @tm.eq_1<|an @bG.eq_1<|an @a9.eq_1<|an @og.eq_1<|an @cQ.eq_1<|an @dM.eq_1<|an @g8.eq_1<|an @Qm.eq_1<|an @gL.eq_1<|an @dq.eq_1<|an @ck.eq_1<|an @b4.eq_1<|an @cN.eq_1<|an @dw.eq_1<|an @eJ.eq_1<|an @gN.eq_1<|an @ia.eq_1<|an @List.map_cons.{0,0} <| an @List.map_nil.{0,0} <| an @List.length_cons.{0} <| an @List.length_nil.{0} <| an @List.cons_append.{0} <| an @List.nil_append.{0} <| an @List.getElem?_cons_zero.{0} <| an @List.getElem?_cons_succ.{0} <| an @List.set_cons_zero.{0} <| an @List.set_cons_succ.{0} <| an @List.all_cons.{0} <| an @List.all_nil.{0} <| an @Option.bind_some.{0,0} <| an @Option.bind_none.{0,0} <| an @Option.map_some.{0,0} <| an @Option.map_none.{0,0} <| an @id_eq.{1} <| an @if_true.{1} <| an @if_false.{1} <| an @List.length_map.{0,0} <| an @and_self<|an @and_true<|an @true_and<|an @ne_eq.{1} <| an @not_false_eq_true<|an @Rb.eq_1<|an @wK.eq_1<|an @xk.eq_1<|an @wj.eq_1 @yW.eq_1
local macro_rules|`(tactic| symm)=>`(tactic| simp! [SN,b6,fw,iB,own,xn,du,List.replicate,reduceIte,reduceCtorEq,Nat.reduceAdd,Nat.reduceSub,Nat.reduceLeDiff,Int.reducePow,Int.reduceNeg,Int.reduceLT,Int.reduceLE,Int.reduceToNat,Nat.reduceLT,Int.reduceEq,Int.reduceSub,Int.reduceAdd])
local macro_rules|`(tactic| nofun)=>`(tactic| ((try symm);repeat ((first|rw[div_ii ∅]|rw[bq ∅]|rw[mul_r ∅]|rw[kC ∅]|rw[mul_r (by split<;>omega)]);try symm)))
local macro_rules|`(tactic| ac_rfl)=>`(tactic| first|assumption | (with_reducible first|exact b7|exact iK|exact eC|exact rR|exact DV|exact dH|exact hX|exact bq ∅|exact div_ii ∅|exact mul_r ∅|exact kC ∅|exact gb|exact rT|exact bL (by assumption)|exact jm _ _ _) | ((with_reducible first|apply o2|apply cn|apply cb|apply ca|apply se|apply tu|apply u1|apply li|apply re|apply ap|apply fz|apply SQ|apply SR|apply bl|apply bn)<;>ac_rfl)|exact T7 _ _|exact T8 _|exact Tn _ _|exact Tf _ _|exact Td _ _|exact vY _|exact Ti _|rfl | (apply bo<;>ac_rfl) | (apply gn;(· first|rfl|assumption|omega|exact wm _|decide);(· ac_rfl)))
local macro_rules|`(tactic| infer_instance)=>`(tactic| first | (apply bl;(· ac_rfl);(· first|exact decide_eq_true (by assumption)|exact decide_eq_false (by assumption)|rfl|assumption|exact(mM _).trans (by assumption)|exact(tN _).trans (by assumption)|exact(xM _).trans (by assumption))) | (with_reducible apply nr;(· infer_instance);(· infer_instance)) | (with_reducible apply bot;infer_instance) | (with_reducible apply bat;(· infer_instance);(· infer_instance)) | (with_reducible apply p6;infer_instance) | (with_reducible apply bn;(· infer_instance);(· rfl)))
def bo{α β:Type}{o:Option α}{a:α}{k:α→Option β}{r:Option β}(h:o=some a)(h2:k a=r):o.bind k=r:=by rw[h];exact h2
theorem bl{f:Uq}{e:Ev}{m:M}{b c:Bool}(h:f e=some (m,.bl b))(h2:b=c):jB f e=some c:=bo h (bT some h2)
def o2{g:M×D→M×D→Us}{fa fb:Uq}{e:Ev}{x y:M×D}{r:Us}(h:fa e=some x)(h2:fb e=some y)(h3:g x y=r):ah g fa fb e=r:=bo h (bo h2 h3)
def u1{g:M×D→Us}{f:Uq}{e:Ev}{x:M×D}{r:Us}(h:f e=some x)(h2:g x=r):eY g f e=r:=bo h h2
def cn{f:Uq}{g:Um}{e:Ev}{x:M×D}{l:List (M×D)}(h:f e=some x)(h2:g e=some l):ag f g e=some (x::l):=bo h (bo h2 rfl)
def cb{g:List (M×D)→Us}{fs:Um}{e:Ev}{l:List (M×D)}{r:Us}(h:fs e=some l)(h2:g l=r):bY g fs e=r:=bo h h2
def ca{F:Ur}{fs:Um}{e:Ev}{xs:List (M×D)}{r:Us}(h:fs e=some xs)(h2:F (xs.map (·.2))=r):aJ F fs e=r:=bo h h2
def tu{fs:Um}{e:Ev}{l:List (M×D)}{r:Us}(h:fs e=some l)(h2:og l=r):bG fs e=r:=bo h h2
def li{fs:Um}{e:Ev}{l:List (M×D)}{r:Us}(h:fs e=some l)(h2:cQ l=r):a9 fs e=r:=bo h h2
def se{i:Nat}{f:Uq}{e e':Ev}{x y:M×D}(h:f e=some x)(h2:kj x=some y)(h3:e.set i (some y)=e'):aE i f e=some (.nx e'):=bo h (bo h2 (by rw[h3]))
def re{f:Uq}{e:Ev}{m:M}{d:D}(h:f e=some (m,d)):aN f e=some (.rt e m d):=bo h rfl
def gn{c:Prop}[Decidable c]{α:Type}{x y r:α}(h:c)(h2:x=r):(if c then x else y)=r:=by rw[if_pos h];exact h2
def ap{i:Nat}{f:Uq}{e e':Ev}{x:M×D}{y:M×Ut}(h:f e=some x)(h1:bI x.1 x.2=true)(h2:eJ i e=some y)(h3:y.2.length<sizeLine)(h4:e.set i (some (y.1,.lst (y.2++[x.2])))=e'):dM i f e=some (.nx e'):=bo h (gn h1 (bo h2 (gn h3 (by rw[h4]))))
def fz{i:Nat}{g:Ul}{e e':Ev}{r:Option Fl}(h:ck i e=e')(h2:g e'=r):dq i g e=r:=by unfold dq;rw[h];exact h2
def SQ{f g:Up}{e:Ev}{b c:Bool}(h:f e=some b)(h2:g e=some c):fC f g e=some (b&&c):=bo h (by cases b;rfl;exact h2)
def SR{f g:Up}{e:Ev}{b c:Bool}(h:f e=some b)(h2:g e=some c):gx f g e=some (b||c):=bo h (by cases b;exact h2;rfl)
def p6{f g:Up}{e:Ev}(h:f e=some false):fC f g e=some false:=bo h rfl
def bat{f g:Up}{e:Ev}{c:Bool}(h:f e=some true)(h2:g e=some c):fC f g e=some c:=bo h h2
def bot{f g:Up}{e:Ev}(h:f e=some true):gx f g e=some true:=bo h rfl
def nr{f g:Up}{e:Ev}{c:Bool}(h:f e=some false)(h2:g e=some c):gx f g e=some c:=bo h h2
def bn{f:Up}{e:Ev}{b c:Bool}(h:f e=some b)(h2:(!b)=c):oA f e=some c:=bo h (bT some h2)
def bL{ds:Ut}{k:Int}{d:D}{m n:M}(h:L2.aT ds k=some d):aC (m,.lst ds) (n,.int k)=some (aI m,d):=by rw[DW,h];rfl
def gb{α:Type}{l:List α}{f:α→D}{m:M}:cA [(m,f∘l)]=some (.fr,.int (l.length:Int)):=by rw[rT,ln]
def ri{A:Uq}{e:Ev}{m:M}{x:Int}(h:A e=some (m,.int x))(hx:-100000≤x∧x≤100000):dw (ag A ai) e=some (.fr,bH 0 x.toNat):=bo (cn h rfl) (gn ∅ rfl)
def lF{c:Up}{f g:Ul}{e:Ev}(h:c e=some false):au (aU c f bj) g e=g e:=by simp[au,aU,h,bj]
noncomputable abbrev AB:Str := "abcdefghijklmnopqrstuvwxyz"
def Oa(x y:Str):(x++y).length=x.length+y.length:=by
 show(x.cps++y.cps).size=_;rw[Array.size_append];rfl
def kh(ns:List Int)(k:Int)(h0:0≤k):∃c,gB [.int∘ns,.int k]=some (.fr,.int c):=by
 unfold gB fn Ag;simp only[bW,aR,aZ];by_cases h:k<ns.length
 ·let⟨c,hc⟩:=A3 h0 h;exact⟨c,by
   rw[cU (m:=.al) (d:=.int c) (by rw[bO (bl (o2 rfl (cb (cn rfl rfl) gb) eC) (bz h))];exact re (o2 rfl rfl (bL hc)))];rfl⟩
 ·exact⟨k*7919+11,by
   rw[lF (bl (o2 rfl (cb (cn rfl rfl) gb) eC) (b5 h))];exact bo (re (o2 (o2 rfl rfl (mul_r (by decide))) rfl b7)) rfl⟩
def Bb(c k:Int):∃x,lL [.int c,.int k]=some (.fr,.int x):=by
 unfold lL fn zU;simp only[bW,aR,aZ];let hc:=il c (show(2147483629:Int)≠0 by decide);let yq:=ip c (show(0:Int)<2147483629 by decide);let hx:=il ((c%2147483629+11)*(69621+2*k)) (show(2147483629:Int)≠0 by decide);let uH:=ip ((c%2147483629+11)*(69621+2*k)) (show(0:Int)<2147483629 by decide);rw[aw (e':=[.al\.int c,.al\.int k,.fr\.int ((c%2147483629+11)*(69621+2*k)%2147483629)]) (by exact se (o2 (o2 (o2 (o2 rfl rfl (bq (by decide))) rfl b7) (o2 rfl (o2 rfl rfl (kC (by decide))) b7) (kC ∅)) rfl (bq (by decide))) rfl rfl)];generalize (c%2147483629+11)*(69621+2*k)%2147483629=x at hx uH;exact⟨_,bo (re (o2 (o2 (o2 (o2 rfl (o2 (o2 rfl rfl (bq (by decide))) rfl b7) (kC ∅)) rfl (bq (by decide))) rfl (mul_r (by decide))) rfl b7)) rfl⟩
def Bc(ns:List Int)(k:Int)(h0:0≤k):∃c,lM [.int∘ns,.int k]=some (.fr,.int c):=by
 let⟨a,ha⟩:=kh ns 0 ∅;let⟨b,hb⟩:=kh ns k h0;let⟨x,hx⟩:=Bb b k;unfold lM fn zV;simp only[bW,aR,aZ];by_cases h:a%2=1
 ·exact⟨x,by
   rw[cU (m:=.fr) (d:=.int x) (by rw[bO (bl (o2 (o2 (ca (cn rfl (cn rfl rfl)) ha) rfl (bq (by decide))) rfl dH) (bz h))];exact re (ca (cn (ca (cn rfl (cn rfl rfl)) hb) (cn rfl rfl)) hx))];rfl⟩
 ·exact⟨b,by
   rw[lF (bl (o2 (o2 (ca (cn rfl (cn rfl rfl)) ha) rfl (bq (by decide))) rfl dH) (b5 h))];exact bo (re (ca (cn rfl (cn rfl rfl)) hb)) rfl⟩
def nH{l:List Int}{k:Int}(h0:0≤k)(h1:k<l.length):∃c∈l,L2.aT (l.map D.int) k=some (.int c):=by
 rw[iI h0 (by rw[ln];exact h1)];exact⟨l[k.toNat]'∅,yh _,by rw[oU]⟩
abbrev fm:Ko→Prop
 |.inl i=>0≤i∧i<18446744073709551616
 |.inr _=>True
def nC(c:Int)(ns:U3)(h:ns.length=5):∃k:Ko,jn [.int c,.str∘ns]=.fr\kD k∧fm k:=by
 unfold jn fn zL;simp only[bW,aR,aZ];by_cases q:c%4=0
 ·let⟨x,hx,e⟩:=nH (l:=[c/12%4,c/12*2862933555777941757%18446744073709551616,18446744073709551616-1-c/12%3]) (k:=c/4%3) (il _ (by decide)) (ip _ (by decide));refine⟨.inl x,?_,by
   simp only[List.mem_cons,List.not_mem_nil,or_false]at hx;rcases hx with rfl|rfl|rfl<;>exact⟨by omega,by omega⟩⟩
  rw[cU (m:=.fr) (d:=kD (.inl x)) (by
   rw[bO (bl (o2 (o2 rfl rfl (bq (by decide))) rfl dH) (bz q))];rw[aw (e':=[.al\.int c,.al\.str∘ns,.fr\.int (c/12)]) (by exact se (o2 rfl rfl (div_ii (by decide))) rfl rfl)];exact re (o2 (li (cn (o2 rfl rfl (bq (by decide))) (cn (o2 (o2 rfl rfl (mul_r (by decide))) (o2 rfl rfl (rB (by decide))) (bq (by decide))) (cn (o2 (o2 (o2 rfl rfl (rB (by decide))) rfl iK) (o2 rfl rfl (bq (by decide))) iK) rfl))) rfl) (o2 (o2 rfl rfl (div_ii (by decide))) rfl (bq (by decide))) (bL e)))]
  rfl
 ·let⟨z,e⟩:=Jw (ns:=ns) (k:=c/4%5) (il _ ∅) (by rw[h];exact ip _ ∅);refine⟨.inr z,?_,True.intro⟩;rw[lF (bl (o2 (o2 rfl rfl (bq (by decide))) rfl dH) (b5 q))];exact bo (re (o2 rfl (o2 (o2 rfl rfl (div_ii (by decide))) rfl (bq (by decide))) (bL e))) rfl
def JV(c a sz k j:Int)(P N:Us)(bs:List Int)(z:Str)(o:Us)(hs:0<sz)(hz:z.length≤20)(h0:0≤j)(h1:j<bs.length) :
  ∃z' o',qb [.al\.int c,.al\.int a,.fr\.str AB,P,.fr\.int sz,.bo\.int∘bs,N,.fr\.int k,.fr\.str z,.fr\.int j,o]=some (.nx [.al\.int c,.al\.int a,.fr\.str AB,P,.fr\.int sz,.bo\.int∘bs,N,.fr\.int k,.fr\.str z',.fr\.int j,o'])∧z'.length≤z.length+1:=by
 let SV:AB.length≤sizeLine:=by decide
 let la:AB.cps.toList.length=26:=by decide +kernel
 let⟨b,hb⟩:=A3 (ns:=bs) h0 h1;let fin:∀d,J.One d→∃y:Str,d=.str y∧y.length=1:=λd ⟨cc,e⟩=>⟨_,e,rfl⟩;let⟨d,e,od⟩:=BO (m:=.fr) (n:=.fr) (x:=AB) (i:=(b+5*k*(if decide (j=a%sz)=true then 1 else 0))%26) SV (il _ (by decide)) (by rw[la];exact ip _ (by decide));let⟨y,rfl,hy⟩:=fin d od;refine⟨z++y,.fr\.int (5*k*(if decide (j=a%sz)=true then 1 else 0)),?_,by rw[Oa,hy];exact aK _⟩;unfold qb;rw[aw (e':=[.al\.int c,.al\.int a,.fr\.str AB,P,.fr\.int sz,.bo\.int∘bs,N,.fr\.int k,.fr\.str z,.fr\.int j,.fr\.int (5*k*(if decide (j=a%sz)=true then 1 else 0))]) (by exact se (o2 (o2 rfl rfl (kC (by decide))) (cb (cn (o2 rfl (o2 rfl rfl (bq hs)) dH) rfl) rfl) (mul_r (by split<;>decide))) rfl rfl)];exact se (o2 rfl (o2 rfl (o2 (o2 (o2 rfl rfl (bL hb)) rfl b7) rfl (bq (by decide))) e) (CY (by rw[hy];exact cC (show z.length+1≤21 by omega) (by decide)))) rfl rfl
def JW(c a sz k:Int)(P:Us)(bs:List Int)(fs:U3)(o8 o9 fq:Us)(hs:0<sz)(hl:(bs.length:Int)=sz)(h8:sz≤8)(hf:fs.length≤50) :
  ∃z iE ib,qc [.al\.int c,.al\.int a,.fr\.str AB,P,.fr\.int sz,.bo\.int∘bs,.bo\.str∘fs,.fr\.int k,o8,o9,fq]=some (.nx [.al\.int c,.al\.int a,.fr\.str AB,P,.fr\.int sz,.bo\.int∘bs,.bo\.lst ((fs++[z]).map .str),.fr\.int k,.fr\.str z,iE,ib]):=by
 let⟨e',l1,z,iE,ib,he,hz⟩:=dm (g:=gN 9) (b:=qb) (m:=.fr) (ds:=bH 0 sz.toNat) (e:=[.al\.int c,.al\.int a,.fr\.str AB,P,.fr\.int sz,.bo\.int∘bs,.bo\.str∘fs,.fr\.int k,.fr\.str "",o9,fq])
  (λi e=>∃(z:Str) (o9 fq:Us),e=[.al\.int c,.al\.int a,.fr\.str AB,P,.fr\.int sz,.bo\.int∘bs,.bo\.str∘fs,.fr\.int k,.fr\.str z,o9,fq]∧z.length≤i) ⟨"",o9,fq,rfl,aK _⟩
  (λi d e hd bx=>by
   let⟨z,o9,fq,he,hz⟩:=bx;subst he;let⟨hi,rfl⟩:=lU hd;let⟨z',o',q,EX⟩:=JV c a sz k (0+(i:Int)) P (.bo\.str∘fs) bs z fq hs ∅ ∅ ∅;exact⟨_,_,rfl,q,z',_,o',rfl,by omega⟩)
 subst he;rw[nP]at hz;let T9:z.length≤8:=by omega
 unfold qc;rw[aw (e':=[.al\.int c,.al\.int a,.fr\.str AB,P,.fr\.int sz,.bo\.int∘bs,.bo\.str∘fs,.fr\.int k,.fr\.str "",o9,fq]) rfl];rw[aw (e':=[.al\.int c,.al\.int a,.fr\.str AB,P,.fr\.int sz,.bo\.int∘bs,.bo\.str∘fs,.fr\.int k,.fr\.str z,iE,ib]) (bo (ri rfl ∅) l1)];let s5:fs.length<sizeLine:=dP hf (by decide);let hb:∃b,(jB (ah (tD false) (jV 8) (a9 (ag (jC (.str "say")) (ag (jC (.str "go")) (ag (jC (.str "part")) (ag (jC (.str "end")) ai))))))) [.al\.int c,.al\.int a,.fr\.str AB,P,.fr\.int sz,.bo\.int∘bs,.bo\.str∘fs,.fr\.int k,.fr\.str z,iE,ib]=some b:=⟨pw (.str z) [.str "say",.str "go",.str "part",.str "end"],by with_unfolding_all rfl⟩;let⟨b,hb⟩:=hb;cases b with
 |false =>
  rw[aw (e':=[.al\.int c,.al\.int a,.fr\.str AB,P,.fr\.int sz,.bo\.int∘bs,.bo\.str∘fs,.fr\.int k,.fr\.str z,iE,ib]) (by rw[bw hb];rfl)];exact⟨z,iE,ib,ap rfl rfl rfl (by rw[ln];exact s5) (by rw[fJ];rfl)⟩
 |true =>
  let s1:z.length+("x" : Str).length≤sizeLine:=cC (show z.length+1≤9 by omega) (by decide);rw[aw (e':=[.al\.int c,.al\.int a,.fr\.str AB,P,.fr\.int sz,.bo\.int∘bs,.bo\.str∘fs,.fr\.int k,.fr\.str (z ++ "x"),iE,ib]) (by
   rw[bO hb];exact se (o2 rfl rfl (CY s1)) rfl rfl)]
  exact⟨z ++ "x",iE,ib,ap rfl rfl rfl (by rw[ln];exact s5) (by rw[fJ];rfl)⟩
def JX(c a:Int):∃fs:U3,fs.length=5∧qm [.int c,.int a]=some (.un,.str∘fs):=by
 let hs:0<1+c%8∧1+c%8≤8:=by omega
 let⟨xs,q1,q2,q3⟩:=vz (fc:=ia) (fe:=ah bt (ah bt (ah cW (ah cv (jV 2) (jC (.int 8))) (jC (.int 48271))) (ah aC (jV 1) (jV 0))) (jC (.int 26))) (m:=.fr) (fr:=gA [.al\.int c,.al\.int a,.fr\.str AB,.bo\.lst ([(1009:Int),1013,1019,1021,1031,1033,1039,1049].map .int),.fr\.int (1+c%8),none,none,none,none,none,none] [3,0]) (P:=λx=>∃i:Int,x=.int i) (ds:=bH 0 (1+c%8).toNat) (λd hd=>by
  let⟨i,hi⟩:=List.mem_iff_getElem?.mp hd;let⟨aW,rfl⟩:=lU hi;let⟨p,hp,e⟩:=nH (l:=[(1009:Int),1013,1019,1021,1031,1033,1039,1049]) (k:=0+(i:Int)) ∅ (by show _<((8:Nat):Int);omega);let pp:0<p:=by simp at hp;omega
  exact⟨rfl,_,o2 (o2 (o2 (o2 rfl rfl (div_ii (by decide))) rfl (mul_r (by decide))) (o2 rfl rfl (bL e)) (bq pp)) rfl (bq (by decide)),_,rfl⟩)
 obtain⟨bs,hb⟩:∃bs:List Int,xs=bs.map .int:=by
  clear q1 q2
  induction xs with
  |nil=>exact⟨[],rfl⟩
  |cons x xs ih =>
   let⟨i,rfl⟩:=q3 x (bC ..);let⟨bs,rfl⟩:=ih λy hy=>q3 y (bP _ hy);exact⟨i::bs,rfl⟩
 subst hb;rw[ln,nP]at q2;let⟨e',l1,fs,o7,o8,o9,fq,he,hl⟩:=dm (g:=gN 7) (b:=qc) (m:=.fr) (ds:=bH 0 5) (e:=[.al\.int c,.al\.int a,.fr\.str AB,.bo\.lst ([(1009:Int),1013,1019,1021,1031,1033,1039,1049].map .int),.fr\.int (1+c%8),.bo\.int∘bs,.bo\.lst [],none,none,none,none])
  (λi e=>∃(fs:U3) (o7 o8 o9 fq:Us),e=[.al\.int c,.al\.int a,.fr\.str AB,.bo\.lst ([(1009:Int),1013,1019,1021,1031,1033,1039,1049].map .int),.fr\.int (1+c%8),.bo\.int∘bs,.bo\.str∘fs,o7,o8,o9,fq]∧fs.length=i) ⟨[],none,none,none,none,rfl,rfl⟩
  (λi d e hd bx=>by
   let⟨fs,o7,o8,o9,fq,he,hl⟩:=bx;subst he;let⟨hi,rfl⟩:=lU hd;let⟨z,iE,ib,q⟩:=JW c a (1+c%8) (0+(i:Int)) (.bo\.lst ([(1009:Int),1013,1019,1021,1031,1033,1039,1049].map .int)) bs fs o8 o9 fq ∅ ∅ ∅ ∅;exact⟨_,_,rfl,q,fs++[z],_,_,iE,ib,rfl,by simp[hl]⟩)
 subst he;rw[nP]at hl;refine⟨fs,hl,?_⟩;unfold qm fn zT;simp only[bW,aR,aZ];rw[aw (e':=[.al\.int c,.al\.int a,.fr\.str AB,none,none,none,none,none,none,none,none]) rfl];rw[aw (e':=[.al\.int c,.al\.int a,.fr\.str AB,.bo\.lst ([(1009:Int),1013,1019,1021,1031,1033,1039,1049].map .int),none,none,none,none,none,none,none]) rfl];rw[aw (e':=[.al\.int c,.al\.int a,.fr\.str AB,.bo\.lst ([(1009:Int),1013,1019,1021,1031,1033,1039,1049].map .int),.fr\.int (1+c%8),none,none,none,none,none,none]) (by exact se (o2 rfl (o2 rfl rfl (bq (by decide))) b7) rfl rfl)];rw[aw (e':=[.al\.int c,.al\.int a,.fr\.str AB,.bo\.lst ([(1009:Int),1013,1019,1021,1031,1033,1039,1049].map .int),.fr\.int (1+c%8),.bo\.int∘bs,none,none,none,none,none]) (by exact se (bo (ri rfl ∅) (bo q1 (BM (by rw[ln];omega)))) rfl rfl)];rw[aw (e':=[.al\.int c,.al\.int a,.fr\.str AB,.bo\.lst ([(1009:Int),1013,1019,1021,1031,1033,1039,1049].map .int),.fr\.int (1+c%8),.bo\.int∘bs,.bo\.lst [],none,none,none,none]) rfl];rw[aw (e':=[.al\.int c,.al\.int a,.fr\.str AB,.bo\.lst ([(1009:Int),1013,1019,1021,1031,1033,1039,1049].map .int),.fr\.int (1+c%8),.bo\.int∘bs,.bo\.str∘fs,o7,o8,o9,fq]) (bo (ri rfl ∅) l1)];rfl
noncomputable abbrev De:=Str×Ko×Ko
abbrev a0(q:De):D:=.tup [.str q.1,kD q.2.1,kD q.2.2]
def vZ{α β:Type}{f:α→β}{l:List α}{k:Int}(h0:0≤k)(h1:k<l.length):∃c∈l,L2.aT (l.map f) k=some (f c):=by
 rw[iI h0 (by simpa using h1)];exact⟨l[k.toNat]'∅,yh _,by simp⟩
section
variable {m n:M}
end
def Ob{m n:M}{i:Int}(h0:0≤i)(h1:i<8):∃s:Str,aC (m,.str "+-*&|^<=") (n,.int i)=some (.fr,.str s):=by
 let⟨d,e,c,rfl⟩:=BO (m:=m) (n:=n) (x := "+-*&|^<=") (i:=i) (by decide) h0 (by rw[show(("+-*&|^<=" : Str).cps.toList.length:Int)=8 by decide +kernel];exact h1);exact⟨_,e⟩
def Oc(S:Us)(fs:U3)(hf:fs.length=5)(c md w k:Int)(A4:Us)(hw:0<w∧w<1606938044258990275541962092341162602522202993782792835301376)(ds:List De)(hd:ds.length≤50)(o8:Us) :
  ∃c' q zq,qj [S,.al\.str∘fs,.fr\.int c,.fr\.int md,A4,.fr\.int w,.bo\a0∘ds,.fr\.int k,o8]=some (.nx [S,.al\.str∘fs,.fr\.int c',.fr\.int md,A4,.fr\.int w,.bo\.lst ((ds++[q]).map a0),.fr\.int k,zq])∧fm q.2.1∧fm q.2.2:=by
 let s5:ds.length<sizeLine:=dP hd (by decide);let h1:∃c1:Int,aU (jB (ah bA (jV 3) (jC (.int 1)))) (aE 2 (aJ lL (ag (jV 2) (ag (jV 7) ai)))) bj [S,.al\.str∘fs,.fr\.int c,.fr\.int md,A4,.fr\.int w,.bo\a0∘ds,.fr\.int k,o8]=some (.nx [S,.al\.str∘fs,.fr\.int c1,.fr\.int md,A4,.fr\.int w,.bo\a0∘ds,.fr\.int k,o8]):=by
  by_cases q:md=1
  ·let⟨x,hx⟩:=Bb c k;exact⟨x,by rw[bO (bl (o2 rfl rfl dH) (bz q))];exact se (ca (cn rfl (cn rfl rfl)) hx) rfl rfl⟩
  ·exact⟨c,by rw[bw (bl (o2 rfl rfl dH) (b5 q))];rfl⟩
 let⟨c1,e1⟩:=h1;let⟨x,hx,kx⟩:=nC (c1/8%w) fs hf;let⟨y,hy,ky⟩:=nC (c1/8/w%w) fs hf;let⟨z,hz⟩:=Ob (m:=.fr) (n:=.fr) (i:=c1%8) ∅ ∅;unfold qj;rw[aw e1];rw[aw (e':=[S,.al\.str∘fs,.fr\.int c1,.fr\.int md,A4,.fr\.int w,.bo\a0∘ds,.fr\.int k,.fr\kD x]) (by exact se (ca (cn (o2 (o2 rfl rfl (div_ii (by decide))) rfl (bq hw.1)) (cn rfl rfl)) hx) (by cases x<;>rfl) rfl)];rw[aw (e':=[S,.al\.str∘fs,.fr\.int c1,.fr\.int md,A4,.fr\.int w,.bo\.lst ((ds++[(z,x,y)]).map a0),.fr\.int k,.fr\kD x]) (by exact ap (tu (cn (o2 rfl (o2 rfl rfl (bq (by decide))) hz) (cn rfl (cn (ca (cn (o2 (o2 (o2 rfl rfl (div_ii (by decide))) rfl (div_ii hw)) rfl (bq hw.1)) (cn rfl rfl)) hy) rfl))) rfl) rfl rfl (by rw[ln];exact s5) (by rw[fJ];rfl))];by_cases q:md=0
 ·exact⟨_,(z,x,y),_,by rw[bO (bl (o2 rfl rfl dH) (bz q))];exact se (o2 (o2 (o2 rfl rfl (div_ii (by decide))) rfl (div_ii hw)) rfl (div_ii hw)) rfl rfl,kx,ky⟩
 ·exact⟨_,(z,x,y),_,by rw[bw (bl (o2 rfl rfl dH) (b5 q))];rfl,kx,ky⟩
def Ls(ns:List Int)(fs:U3)(hf:fs.length=5):∃ds:List De,(1≤ds.length∧ds.length≤11)∧(∀q∈ds,fm q.2.1∧fm q.2.2)∧qy [.int∘ns,.str∘fs]=some (.un,a0∘ds):=by
 let⟨c,hc⟩:=Bc ns 1 ∅;let⟨a,ha⟩:=kh ns 0 ∅;let⟨t,ht,et⟩:=nH (l:=[(3:Int),3,3,3,3,3,3,11]) (k:=c%8) ∅ (by show _<((8:Nat):Int);omega);let⟨sz,hz,ez⟩:=nH (l:=[1+c%11,t]) (k:=a%2) ∅ (by show _<((2:Nat):Int);omega);let⟨w,hw,ew⟩:=nH (l:=[(18446744073709551616*64:Int),4096]) (k:=a%2) ∅ (by show _<((2:Nat):Int);omega);let Ua:1≤t∧t≤11:=by simp at ht;omega
 let Ub:1≤sz∧sz≤11:=by simp at hz;omega
 let SW:0<w∧w<1606938044258990275541962092341162602522202993782792835301376:=by simp at hw;omega
 unfold qy fn Ah;simp only[bW,aR,aZ];rw[aw (e':=[.al\.int∘ns,.al\.str∘fs,.fr\.int c,none,none,none,none,none,none]) (by exact se (ca (cn rfl (cn rfl rfl)) hc) rfl rfl)];rw[aw (e':=[.al\.int∘ns,.al\.str∘fs,.fr\.int c,.fr\.int (a%2),none,none,none,none,none]) (by exact se (o2 (ca (cn rfl (cn rfl rfl)) ha) rfl (bq (by decide))) rfl rfl)];rw[aw (e':=[.al\.int∘ns,.al\.str∘fs,.fr\.int c,.fr\.int (a%2),.fr\.int sz,none,none,none,none]) (by exact se (o2 (li (cn (o2 rfl (o2 rfl rfl (bq (by decide))) b7) (cn (o2 (li (cn rfl (cn rfl (cn rfl (cn rfl (cn rfl (cn rfl (cn rfl (cn rfl rfl)))))))) rfl) (o2 rfl rfl (bq (by decide))) (bL et)) rfl)) rfl) rfl (bL ez)) rfl rfl)];rw[aw (e':=[.al\.int∘ns,.al\.str∘fs,.fr\.int c,.fr\.int (a%2),.fr\.int sz,.fr\.int w,none,none,none]) (by exact se (o2 (li (cn (o2 (o2 rfl rfl (rB (by decide))) rfl (mul_r (by decide))) (cn rfl rfl)) rfl) rfl (bL ew)) rfl rfl)];rw[aw (e':=[.al\.int∘ns,.al\.str∘fs,.fr\.int (c/88),.fr\.int (a%2),.fr\.int sz,.fr\.int w,none,none,none]) (by exact se (o2 rfl rfl (div_ii (by decide))) rfl rfl)];rw[aw (e':=[.al\.int∘ns,.al\.str∘fs,.fr\.int (c/88),.fr\.int (a%2),.fr\.int sz,.fr\.int w,.bo\.lst [],none,none]) rfl];let⟨e',l1,ds,r,o7,o8,he,hl,hv⟩:=dm (g:=gN 7) (b:=qj) (m:=.fr) (ds:=bH 0 sz.toNat) (e:=[.al\.int∘ns,.al\.str∘fs,.fr\.int (c/88),.fr\.int (a%2),.fr\.int sz,.fr\.int w,.bo\.lst [],none,none])
  (λi e=>∃(ds:List De) (r:Int) (o7 o8:Us),e=[.al\.int∘ns,.al\.str∘fs,.fr\.int r,.fr\.int (a%2),.fr\.int sz,.fr\.int w,.bo\a0∘ds,o7,o8]∧ds.length=i∧∀q∈ds,fm q.2.1∧fm q.2.2) ⟨[],_,none,none,rfl,rfl,λ_ z=>nomatch z⟩
  (λi d e hd bx=>by
   let⟨ds,r,o7,o8,he,hl,hv⟩:=bx;subst he;let⟨hi,rfl⟩:=lU hd;let⟨r',q,zq,e,kq⟩:=Oc (.al\.int∘ns) fs hf r (a%2) w (0+(i:Int)) (.fr\.int sz) SW ds ∅ o8;exact⟨_,_,rfl,e,ds++[q],r',_,zq,rfl,by simp[hl],λy hy=>(fG.mp hy).elim (hv y) λz=>by rw[List.mem_singleton.mp z];exact kq⟩)
 subst he;rw[nP]at hl;rw[aw (e':=[.al\.int∘ns,.al\.str∘fs,.fr\.int r,.fr\.int (a%2),.fr\.int sz,.fr\.int w,.bo\a0∘ds,o7,o8]) (bo (ri rfl ∅) l1)];exact⟨ds,by omega,hv,rfl⟩
def Tg(many:Int)(r:Row):Prop:=(∀t,r=.go t→0≤t∧t<many)∧∀a t,r=.pt a t→0≤t∧t<many
def RV:Row→Prop
 |.rk _ _ a b=>fm a∧fm b
 |.cp _ a=>fm a
 |.sy a=>fm a
 |.pt a _=>fm a
 |_=>True
def Od(c n many:Int)(hm:1≤many∧many≤100)(fs:U3)(hf:fs.length=5)(ds:List De)(hd:0<ds.length)(hv:∀q∈ds,fm q.2.1∧fm q.2.2):∃r:Row,nF [.int c,.int n,.int many,.str∘fs,a0∘ds]=.fr\r.d∧Tg many r∧RV r:=by
 let⟨nm,_,hn⟩:=vZ (f:=D.str) (l:=fs) (k:=c/14%5) (il _ ∅) (by rw[hf];exact ip _ ∅);let⟨q,mq,hq⟩:=vZ (f:=a0) (l:=ds) (k:=c/14/5%ds.length) (il _ ∅) (ip _ ∅);let⟨o5,h5,k5⟩:=nC (c/14/5) fs hf;let⟨o1,h1,k1⟩:=nC (c/14) fs hf;unfold nF fn AI;simp only[bW,aR,aZ];rw[aw (e':=[.al\.int c,.al\.int n,.al\.int many,.al\.str∘fs,.al\a0∘ds,.fr\.int (c%14),none]) (by exact se (o2 rfl rfl (bq (by decide))) rfl rfl)];rw[aw (e':=[.al\.int c,.al\.int n,.al\.int many,.al\.str∘fs,.al\a0∘ds,.fr\.int (c%14),.fr\.int (c/14)]) (by exact se (o2 rfl rfl (div_ii (by decide))) rfl rfl)];by_cases q1:c%14<6
 ·refine⟨.rk nm q.1 q.2.1 q.2.2,?_,⟨λ_ z=>(by cases z),λ_ _ z=>(by cases z)⟩,hv q mq⟩;rw[cU (m:=.al) (d:=Row.d (.rk nm q.1 q.2.1 q.2.2)) (by
   rw[bO (bl (o2 rfl rfl eC) (bz q1))];exact re (o2 (tu (cn rfl (cn (o2 rfl (o2 rfl rfl (bq (by decide))) (bL hn)) rfl)) rfl) (o2 rfl (o2 (o2 rfl rfl (div_ii (by decide))) (cb (cn rfl rfl) gb) (bq ∅)) (bL hq)) (by with_unfolding_all rfl)))]
  show(if (Row.d (.rk nm q.1 q.2.1 q.2.2)).bD=true then _ else _)=_;rw[if_pos (Row.bD _)]
 rw[lF (bl (o2 rfl rfl eC) (b5 q1))];by_cases q2:c%14<8
 ·refine⟨.cp nm o5,?_,⟨λ_ z=>(by cases z),λ_ _ z=>(by cases z)⟩,k5⟩;rw[cU (m:=.fr) (d:=Row.d (.cp nm o5)) (by
   rw[bO (bl (o2 rfl rfl eC) (bz q2))];exact re (tu (cn rfl (cn (o2 rfl (o2 rfl rfl (bq (by decide))) (bL hn)) (cn (ca (cn (o2 rfl rfl (div_ii (by decide))) (cn rfl rfl)) h5) rfl))) rfl))]
  rfl
 rw[lF (bl (o2 rfl rfl eC) (b5 q2))];by_cases q3:c%14<10
 ·refine⟨.sy o1,?_,⟨λ_ z=>(by cases z),λ_ _ z=>(by cases z)⟩,k1⟩;rw[cU (m:=.fr) (d:=Row.d (.sy o1)) (by
   rw[bO (bl (o2 rfl rfl eC) (bz q3))];exact re (tu (cn rfl (cn (ca (cn rfl (cn rfl rfl)) h1) rfl)) rfl))]
  rfl
 rw[lF (bl (o2 rfl rfl eC) (b5 q3))];by_cases q4:c%14<12∧many>1
 ·let⟨o6,h6,k6⟩:=nC (c/14/(many-1)) fs hf;refine⟨.pt o6 ((n+2+c/14%(many-1))%many),?_,⟨λ_ z=>(by cases z),λ_ _ z=>?_⟩,k6⟩
  ·rw[cU (m:=.fr) (d:=Row.d (.pt o6 ((n+2+c/14%(many-1))%many))) (by
    rw[bO (bat (bl (o2 rfl rfl eC) (bz q4.1)) (bl (o2 rfl rfl rR) (bz q4.2)))];exact re (tu (cn rfl (cn (ca (cn (o2 rfl (o2 rfl rfl iK) (div_ii ∅)) (cn rfl rfl)) h6) (cn (o2 (o2 (o2 rfl rfl b7) (o2 rfl (o2 rfl rfl iK) (bq ∅)) b7) rfl (bq ∅)) rfl))) rfl))]
   rfl
  ·cases z;exact⟨il _ ∅,ip _ ∅⟩
 rw[aw (e':=[.al\.int c,.al\.int n,.al\.int many,.al\.str∘fs,.al\a0∘ds,.fr\.int (c%14),.fr\.int (c/14)]) (by
  by_cases q5:c%14<12
  ·rw[bw (bat (bl (o2 rfl rfl eC) (bz q5)) (bl (o2 rfl rfl rR) (b5 (λz=>q4 ⟨q5,z⟩))))];rfl
  ·rw[bw (p6 (bl (o2 rfl rfl eC) (b5 q5)))];rfl)]
 by_cases q6:c%14=12
 ·refine⟨.go (c/14%many),?_,⟨λ_ z=>?_,λ_ _ z=>(by cases z)⟩,True.intro⟩
  ·rw[cU (m:=.fr) (d:=Row.d (.go (c/14%many))) (by
    rw[bO (bl (o2 rfl rfl dH) (bz q6))];exact re (tu (cn rfl (cn (o2 rfl rfl (bq ∅)) rfl)) rfl))]
   rfl
  ·cases z;exact⟨il _ ∅,ip _ ∅⟩
 ·refine⟨.en,?_,⟨λ_ z=>(by cases z),λ_ _ z=>(by cases z)⟩,True.intro⟩;rw[lF (bl (o2 rfl rfl dH) (b5 q6))];rfl
abbrev Row.jN:Row→Bool
 |.go _=>true
 |_=>false
abbrev Row.xN:Row→Bool
 |.pt _ _=>true
 |_=>false
abbrev Row.jO:Row→Bool
 |.en=>true
 |_=>false
def mM(r:Row):decide (r.word=("go" : Str))=Row.jN r:=by
 cases r with
 |rk x s a b=>exact(by decide +kernel:decide (("reckon" : Str) = "go")=false)
 |cp x a=>exact(by decide +kernel:decide (("copy" : Str) = "go")=false)
 |sy a=>exact(by decide +kernel:decide (("say" : Str) = "go")=false)
 |go t=>exact(by decide +kernel:decide (("go" : Str) = "go")=true)
 |pt a t=>exact(by decide +kernel:decide (("part" : Str) = "go")=false)
 |en=>exact(by decide +kernel:decide (("end" : Str) = "go")=false)
def tN(r:Row):decide (r.word=("part" : Str))=Row.xN r:=by
 cases r with
 |rk x s a b=>exact(by decide +kernel:decide (("reckon" : Str) = "part")=false)
 |cp x a=>exact(by decide +kernel:decide (("copy" : Str) = "part")=false)
 |sy a=>exact(by decide +kernel:decide (("say" : Str) = "part")=false)
 |go t=>exact(by decide +kernel:decide (("go" : Str) = "part")=false)
 |pt a t=>exact(by decide +kernel:decide (("part" : Str) = "part")=true)
 |en=>exact(by decide +kernel:decide (("end" : Str) = "part")=false)
def xM(r:Row):decide (r.word=("end" : Str))=Row.jO r:=by
 cases r with
 |rk x s a b=>exact(by decide +kernel:decide (("reckon" : Str) = "end")=false)
 |cp x a=>exact(by decide +kernel:decide (("copy" : Str) = "end")=false)
 |sy a=>exact(by decide +kernel:decide (("say" : Str) = "end")=false)
 |go t=>exact(by decide +kernel:decide (("go" : Str) = "end")=false)
 |pt a t=>exact(by decide +kernel:decide (("part" : Str) = "end")=false)
 |en=>exact(by decide +kernel:decide (("end" : Str) = "end")=true)
def jm(m n:M)(r:Row):aC (m,r.d) (n,.int 0)=some (aI m,.str r.word):=by
 show(L2.aT r.ds 0).map (λd=>(aI m,d))=_;rw[Row.Ro];rfl
def Lv{rs:List Row}{i:Nat}{d:D}(h:(bX (rs.map Row.d))[i]?=some d):∃r,rs[i]?=some r∧d=.tup [.int i,r.d]:=by
 unfold bX at h;rw[List.getElem?_mapIdx,dN]at h;cases e:rs[i]? with
 |none=>rw[e]at h;cases h
 |some r=>rw[e]at h;cases h;exact⟨r,rfl,rfl⟩
abbrev di(n:Int):Row→List Int
 |.en=>[]
 |.go t=>[t]
 |.pt _ t=>[n+1,t]
 |_=>[n+1]
def aH(rs:List Row)(i j:Nat):Prop:=∃r,rs[i]?=some r∧(j:Int)∈di i r∧j<rs.length
structure Good (rs:List Row):Prop where
 pos:0<rs.length
 di:∀(n:Nat) r,rs[n]?=some r→∀m∈aY.di n r,0≤m∧m<rs.length
 rv:∀(n:Nat) r,rs[n]?=some r→RV r
theorem lN:∀(N:Nat) (l:U0),l.Nodup→(∀x∈l,x<N)→l.length≤N
 |0,l,_,h=>by
  cases l with
  |nil=>exact aK _
  |cons a l=>exact absurd (h a bC) (oR a)
 |N+1,l,hn,h=>by
  let ih:=lN N (l.erase N) (hn.erase N) (λx hx=>by
   let h1:=h x (List.mem_of_mem_erase hx);let h2:x≠N:=λe=>by subst e;exact(List.Nodup.not_mem_erase hn) hx
   omega)
  rw[List.length_erase]at ih;split at ih<;>omega
abbrev av(l:U0):Ut:=l.map λ(n:Nat)=>↥n
local macro_rules|`(⇑$x)=>`(D.lst (av $x))
def g7(l:U0):(av l).length=l.length:=by simp[av]
def vI(l:U0)(x:Nat):av l++[↥x]=av (l++[x]):=by simp[av]
abbrev Ea(k:Nat)(e:Ev):Nat:=match e[k]? with
 |some (some (_,.lst ds))=>ds.length
 |_=>0
def mN(rs:List Row)(n:Nat):List Int:=match rs[n]? with
 |some r=>di n r
 |none=>[]
def gp(rs:List Row)(n:Nat):U0:=(mN rs n).map Int.toNat
set_option tactic.hygienic true in
def Bd{rs:List Row}(g:Good rs){n:Nat}{m:Int}(h:m∈mN rs n):0≤m∧m<rs.length:=by
 unfold mN at h;split at h
 ·rename_i r hr;exact g.di _ _ hr _ h
 ·cases h
def Oe{rs:List Row}(g:Good rs)(n:Nat):(mN rs n).map D.int=av (gp rs n):=by
 unfold av gp;rw[gU];refine mU λm hm=>?_;have:=Bd g hm;show D.int m=D.int ((m.toNat:Nat):Int);rw[Int.toNat_of_nonneg this.1]
set_option tactic.hygienic true in
def JY{rs:List Row}(g:Good rs){n m:Nat}(h:m∈gp rs n):aH rs n m:=by
 let⟨x,hx,rfl⟩:=bV.mp h;let b:=Bd g hx;unfold mN at hx;split at hx
 ·rename_i r hr;exact⟨r,hr,by rw[Int.toNat_of_nonneg b.1];exact hx,by omega⟩
 ·cases hx
abbrev GJ(k:Nat)(e:Ev):Nat:=match e[k]? with
 |some (some (_,.dk ks))=>ks.length
 |_=>0
abbrev bE(ks:U0):List (Key×D):=ks.map λ(n:Nat)=>(.inl (n:Int),.bl true)
theorem Eb:∀(ks:U0) (n:Nat),(cB (bE ks) (.inl (n:Int))).isSome=decide (n∈ks)
 |[],n=>rfl
 |k::ks,n=>by
  let ih:=Eb ks n;show(((((Key.inl (k:Int):Key),D.bl true)::bE ks).find? λkv=>decide (kv.1=.inl (n:Int))).map (·.2)).isSome=_;rw[List.find?_cons];by_cases h:k=n
  ·subst h;rw[bz rfl];simp
  ·let dD:¬((Key.inl (k:Int):Key)=.inl (n:Int)):=λe=>h (Int.ofNat_inj.mp (Key.inl.inj e));rw[b5 dD];let h':¬n=k:=λz=>h z.symm;simp only[List.mem_cons,h',false_or];exact ih
def Og{ks:U0}{n:Nat}(h:n∉ks):putD (bE ks) (.inl (n:Int)) (.bl true)=bE (ks++[n]):=by
 let ha:((bE ks).any λkv=>decide (kv.1=.inl (n:Int)))=false:=by
  rw[List.any_eq_false];intro kv lG;let⟨q,hq,rfl⟩:=bV.mp lG;simp only[decide_eq_true_eq];intro e;exact h ((Int.ofNat_inj.mp (Key.inl.inj e))▸hq)
 unfold putD;rw[ha,if_neg aL];simp only[bE,List.map_append,mq,mn]
def Dk(ks:U0):(bE ks).length=ks.length:=by simp[bE]
def Uc(Bk:List (U0)):D:=.lst ((Bk.map av).map D.lst)
def B5(N:Nat):bH 0 N=av (List.range N):=by
 unfold bH av;exact mU λk _=>by rw[Int.zero_add]
theorem vt{fc:Up}{fe:Uq}{m:M}{fr:Ev}{p:Nat→Bool}:∀(ks:U0),(∀k∈ks,fc (some (m,↥k)::fr)=some (p k)∧fe (some (m,↥k)::fr)=.fr\↥k)→dG fc fe m fr (av ks)=some ((av (ks.filter p)).map λx=>(M.fr,x))
 |[],_=>rfl
 |k::ks,h=>by
  let⟨h1,h2⟩:=h k bC;let ih:=vt (fc:=fc) (fe:=fe) (m:=m) (fr:=fr) (p:=p) ks λx hx=>h x (bP _ hx);rw[show av (k::ks)=↥k::av ks from rfl,dG,h1,oq,List.filter_cons];cases p k with
  |true=>rw[if_pos rfl,h2,oq,ih,if_pos rfl];rfl
  |false=>rw[if_neg aL,ih,if_neg aL]
mutual
theorem qU:∀d:D,J.plain d=true→PyData.eqv (toPy d) (toPy d)=true
 |.non,_=>by simp[toPy,PyData.eqv]
 |.bl b,_=>by simp[toPy,PyData.eqv]
 |.int i,_=>by simp[toPy,PyData.eqv]
 |.str x,_=>by simp[toPy,PyData.eqv]
 |.ty n,h=>by simp[J.plain]at h
 |.dk _,h=>by simp[J.plain]at h
 |.dt _,h=>by simp[J.plain]at h
 |.tup ds,h=>by
  simp only[toPy,PyData.eqv];exact vA ds (by simpa only[J.plain]using h)
 |.lst ds,h=>by
  simp only[toPy,PyData.eqv];exact vA ds (by simpa only[J.plain]using h)
theorem vA:∀ds:Ut,J.cV ds=true→PyData.eqvAll (cF ds) (cF ds)=true
 |[],_=>by simp[cF,PyData.eqvAll]
 |d::ds,h=>by
  let h':J.plain d=true∧J.cV ds=true:=by simpa[J.cV]using h
  simp only[cF,PyData.eqvAll,qU d h'.1,vA ds h'.2,Bool.and_self]
end
theorem qJ{n:Nat}:∀{ds:Ut},(∀d∈ds,(toPy d).depth≤n)→PyData.depthAll (cF ds)≤n
 |[],_=>by simp[cF,PyData.depthAll]
 |d::ds,h=>by
  have:=qJ (ds:=ds) λx hx=>h x (bP _ hx);let h1:=h d bC;simp only[cF,PyData.depthAll];omega
theorem kf:∀{ds:Ut},(∀d∈ds,J.plain d=true)→J.cV ds=true
 |[],_=>by simp[J.cV]
 |d::ds,h=>by simp only[J.cV,h d List.mem_cons_self,kf λx hx=>h x (List.mem_cons_of_mem _ hx),Bool.and_self]
def Be{ds:Ut}(h1:∀d∈ds,J.plain d=true)(h2:∀d∈ds,(toPy d).depth≤10):gi (.lst ds) (.lst ds)=true:=by
 let hd:(toPy (.lst ds)).depth≤60:=by
  simp only[toPy,PyData.depth];have:=qJ h2;omega
 simp only[gi,J.plain,kf h1,kE,Bool.and_self,Bool.true_and];exact bz ∅
def Oh{m n:M}{ds:Ut}(h1:∀d∈ds,J.plain d=true)(h2:∀d∈ds,(toPy d).depth≤10):dA (m,.lst ds) (n,.lst ds)=some (.fr,.bl false):=by
 let e:=qU (.lst ds) (by simp only[J.plain];exact kf h1);simp only[dA,Be h1 h2,if_true,e,Bool.not_true]
def Oi{m n:M}{ds:Ut}(h1:∀d∈ds,J.plain d=true)(h2:∀d∈ds,(toPy d).depth≤10):gj (m,.lst ds) (n,.lst ds)=some (.fr,.bl true):=by
 let e:=qU (.lst ds) (by simp only[J.plain];exact kf h1);simp only[gj,Be h1 h2,if_true,e]
abbrev vg(q:Int×Int):D:=.tup [.int q.1,.int q.2]
def zr(l:List (Int×Int)):Ut:=l.map vg
def Iw(l:List (Int×Int)):∀d∈zr l,J.plain d=true:=λd hd=>by
 let⟨q,_,rfl⟩:=bV.mp hd;simp[vg,J.plain,J.cV]
def Iy(l:List (Int×Int)):∀d∈zr l,(toPy d).depth≤10:=λd hd=>by
 let⟨q,_,rfl⟩:=bV.mp hd;simp[vg,toPy,cF,PyData.depth,PyData.depthAll]
def Al(l:List Row):∀d∈l.map Row.d,J.plain d=true:=λd hd=>by
 let⟨r,_,rfl⟩:=bV.mp hd;let k:∀a:Ko,J.plain (kD a)=true:=λa=>by cases a<;>simp[kD,J.plain]
 cases r<;>simp[Row.d,Row.ds,J.plain,J.cV,k]
def Am(l:List Row):∀d∈l.map Row.d,(toPy d).depth≤10:=λd hd=>by
 let⟨r,_,rfl⟩:=bV.mp hd;let k:∀a:Ko,(toPy (kD a)).depth=0:=λa=>by cases a<;>simp[kD,toPy,PyData.depth]
 cases r<;>simp[Row.d,Row.ds,toPy,cF,PyData.depth,PyData.depthAll,k]
def v3{xs:Ut}(h:xs.length≤5000)(hi:∀x∈xs,x.bD=true):cQ (xs.map λx=>(M.al,x))=some (.un,.lst xs):=by
 unfold cQ;rw[if_pos (by rw[ln];exact cC h (by decide)),if_pos (by rw[List.all_map];exact fH.mpr λx hx=>hi x hx),gU];congr 3;exact List.map_id xs
def vJ{xs:Ut}(h:xs.length≤5000):cQ (xs.map λx=>(M.fr,x))=some (.un,.lst xs):=by
 unfold cQ;rw[if_pos (by rw[ln];exact cC h (by decide)),if_pos (by rw[List.all_map];exact fH.mpr λ_ _=>rfl),gU];congr 3;exact List.map_id xs
def co{it:Ev→Option (M×Ut)}{ix:U0}{fc:Up}{fe:Uq}{e:Ev}{m:M}{ds:Ut}{l:List (M×D)}{r:Us}(h:it e=some (m,ds))(h2:dG fc fe m (gA e ix) ds=some l)(h3:cQ l=r):jH it ix fc fe e=r:=bo h (bo h2 h3)
def r1{A:Uq}{e:Ev}{m:M}{n:Nat}(h:A e=some (m,↥n))(hn:n≤5000):dw (ag A ai) e=some (.fr,av (List.range n)):=bo (cn h rfl) (gn ∅ (by rw[Int.toNat_natCast,B5]))
def sx{i j:Nat}{fk f:Uq}{e e':Ev}{x z:M×D}{k:Int}{y:M×Ut}(h:f e=some x)(h1:fk e=some z)(h2:iO z=some k)(h3:bI x.1 x.2=true)(h4:eJ i e=some y)(h5:cM y.2.length k=some j)(h6:e.set i (some (y.1,.lst (y.2.set j x.2)))=e'):g8 i fk f e=some (.nx e'):=bo h (bo h1 (bo h2 (gn h3 (bo h4 (bo h5 (by rw[h6]))))))
def Oj{n:Nat}{r:Row}{m:Int}(hm:m∈di n r):m=(n:Int)+1∨r=.go m∨∃a,r=.pt a m:=by
 cases r with
 |en=>exact nomatch hm
 |go t=>exact .inr (.inl (by rw[List.mem_singleton.mp hm]))
 |pt a t=>exact(cS.mp hm).imp_right λz=>.inr ⟨a,by rw[List.mem_singleton.mp z]⟩
 |_=>exact .inl (List.mem_singleton.mp hm)
def GK{b:Bool}{fk fd:Uq}{e:Ev}{m n:M}{x:Nat}{ks:U0}(h:fk e=some (m,↥x))(h2:fd e=some (n,.dk (bE ks))):cX b fk fd e=some (.fr,.bl (if b then !decide (x∈ks)else decide (x∈ks))) :=
 bo h (bo h2 (bo rfl (bo rfl (by rw[Eb]))))
def dp{i:Nat}{fk f:Uq}{e e':Ev}{x y:M×D}{k:Key}{z:M×List (Key×D)}(h:f e=some x)(h1:fk e=some y)(h2:keyOf y.2=some k)(h3:bI x.1 x.2=true)(h4:kY i e=some z)(h5:z.2.length<sizeLine)(h6:e.set i (some (z.1,.dk (putD z.2 k x.2)))=e'):kH i fk f e=some (.nx e'):=bo h (bo h1 (bo h2 (gn h3 (bo h4 (gn h5 (by rw[h6]))))))
def ja{fa fb:Uq}{e:Ev}{m:M}{b c:Bool}(h:fa e=some (m,.bl b))(h2:b=true→fb e=.fr\.bl c):oz fa fb e=some (.fr,.bl (b&&c)):=bo h (bo rfl (by cases b with
 |true=>exact h2 rfl
 |false=>rfl))
def Dl{rs:List Row}{n:Nat}{r:Row}(h:rs[n]?=some r):L2.aT (rs.map Row.d) (n:Int)=some r.d:=by
 let aW:n<rs.length:=(bQ.mp h).1;rw[kg (by rw[ln];exact aW),oU];rw[fI aW]at h;rw[cY h]
def Lw(rs:List Row)(n:Nat)(r:Row)(h:rs[n]?=some r):lJ [Row.d∘rs,.int n]=some (.un,.lst ((di n r).map .int)):=by
 let aW:n<rs.length:=(bQ.mp h).1;let GL:L2.aT (rs.map Row.d) (n:Int)=some r.d:=by
  rw[kg (by rw[ln];exact aW),oU];rw[fI aW]at h;rw[cY h]
 generalize (n:Int)=nn at GL ⊢;unfold lJ fn zH;simp only[bW,aR,aZ];rw[aw (e':=[.al\Row.d∘rs,.al\.int nn,.al\r.d]) (by exact se (o2 rfl rfl (bL GL)) rfl rfl)];let T:∀w:Str,jB (ah bA (ah aC (jV 2) (jC (.int 0))) (jC (.str w))) [.al\Row.d∘rs,.al\.int nn,.al\r.d]=some (decide (r.word=w)):=λw=>bl (o2 (o2 rfl rfl (jm _ _ r)) rfl hX) rfl;let T1:=(T "go").trans (bT some (mM r));let T2:=(T "part").trans (bT some (tN r));let T3:=(T "end").trans (bT some (xM r));cases r with
 |go t =>
  rw[cU (m:=.un) (d:=.lst [.int t]) (by rw[bO T1];exact re (li (cn (o2 rfl rfl rfl) rfl) rfl))];rfl
 |pt a t =>
  rw[aw (by rw[bw T1];rfl)];rw[cU (m:=.un) (d:=.lst [.int (nn+1),.int t]) (by rw[bO T2];exact re (li (cn (o2 rfl rfl b7) (cn (o2 rfl rfl rfl) rfl)) rfl))];rfl
 |en =>
  rw[aw (by rw[bw T1];rfl),aw (by rw[bw T2];rfl)];rw[cU (m:=.un) (d:=.lst []) (by rw[bO T3];rfl)];rfl
 |rk x s a b =>
  rw[aw (by rw[bw T1];rfl),aw (by rw[bw T2];rfl),aw (by rw[bw T3];rfl)];exact bo (re (li (cn (o2 rfl rfl b7) rfl) rfl)) rfl
 |cp x a =>
  rw[aw (by rw[bw T1];rfl),aw (by rw[bw T2];rfl),aw (by rw[bw T3];rfl)];exact bo (re (li (cn (o2 rfl rfl b7) rfl) rfl)) rfl
 |sy a =>
  rw[aw (by rw[bw T1];rfl),aw (by rw[bw T2];rfl),aw (by rw[bw T3];rfl)];exact bo (re (li (cn (o2 rfl rfl b7) rfl) rfl)) rfl
section
variable {m n:M}{p q:Nat→Bool}{k:Nat}
end
section
variable {κ:Type}[DecidableEq κ]
def Lx{ks:List (κ×D)}{k:κ}{d:D}(h:∀kv∈ks,kv.1=k→kv.2=d)(hi:∃kv∈ks,kv.1=k):putD ks k d=ks:=by
 unfold putD;rw[if_pos (by rw[yi];let⟨kv,h1,h2⟩:=hi;exact⟨kv,h1,bz h2⟩)]
 conv=>rhs;rw[←List.map_id ks]
 refine mU λkv lG=>?_;by_cases e:kv.1=k
 ·rw[if_pos e,←h kv lG e];rfl
 ·rw[if_neg e];rfl
def Bf{ks:List (κ×D)}{k:κ}{d:D}(h:∀kv∈ks,kv.1≠k):putD ks k d=ks++[(k,d)]:=by
 unfold putD;rw[if_neg];intro z;let⟨kv,h1,h2⟩:=yi.mp z;exact h kv h1 (aP h2)
def Iz{ks:List (κ×D)}{k:κ}{d:D}(h:∀kv∈ks,kv.1=k→kv.2=d)(hi:∃kv∈ks,kv.1=k):cB ks k=some d:=by
 unfold cB;cases f:ks.find? λkv=>decide (kv.1=k) with
 |none =>
  let⟨kv,h1,h2⟩:=hi;have:=List.find?_eq_none.mp f kv h1;exact absurd (bz h2) this
 |some kv =>
  let h1:=List.mem_of_find?_eq_some f;let h2:kv.1=k:=aP (List.find?_some (p:=λ(kv:κ×D)=>decide (kv.1=k)) f);rw[oy,h kv h1 h2]
def Hl{ks:List (κ×D)}{k:κ}:(cB ks k).isSome=true↔∃kv∈ks,kv.1=k:=by
 unfold cB;rw[t8,List.find?_isSome];constructor
 ·rintro⟨kv,h1,h2⟩;exact⟨kv,h1,aP h2⟩
 ·rintro⟨kv,h1,h2⟩;exact⟨kv,h1,bz h2⟩
def Bg(ks:List (κ×D))(k:κ)(d:D):(putD ks k d).length≤ks.length+1:=by
 unfold putD;split
 ·rw[ln];omega
 ·simp
end
abbrev ic:Row→Option De
 |.rk _ s a b=>some (s,a,b)
 |_=>none
abbrev sets:Row→Option Str
 |.rk x _ _ _=>some x
 |.cp x _=>some x
 |_=>none
def dd:Option De→D
 |some q=>a0 q
 |none=>.non
abbrev i5:Option Str→D
 |some q=>.str q
 |none=>.non
def QG(r:Row):decide (r.word=("reckon" : Str))=(ic r).isSome:=by
 cases r with
 |rk x s a b=>exact(by decide +kernel:decide (("reckon" : Str) = "reckon")=true)
 |cp x a=>exact(by decide +kernel:decide (("copy" : Str) = "reckon")=false)
 |sy a=>exact(by decide +kernel:decide (("say" : Str) = "reckon")=false)
 |go t=>exact(by decide +kernel:decide (("go" : Str) = "reckon")=false)
 |pt a t=>exact(by decide +kernel:decide (("part" : Str) = "reckon")=false)
 |en=>exact(by decide +kernel:decide (("end" : Str) = "reckon")=false)
def vY(r:Row):j9 [r.d]=some (.fr,dd (ic r)):=by
 unfold j9 fn zI;symm;simp! [jm,oq,C1,hX,DX,QG];cases r with
 |rk x s a b =>
  simp! [ic,Option.isSome_some,if_true];rw[show aC (.al,Row.d (.rk x s a b)) (.fr,.int 2)=some (.al,.str s)from rfl,show aC (.al,Row.d (.rk x s a b)) (.fr,.int 3)=some (.al,kD a)from rfl,show aC (.al,Row.d (.rk x s a b)) (.fr,.int 4)=some (.al,kD b)from rfl];symm;simp! [wm,Bool.and_self,if_true];rfl
 |_=>rfl
abbrev p7:Ko→Key
 |.inl i=>.inl i
 |.inr x=>.inr x
def j8(q:De):List Key:=[.inr q.1,p7 q.2.1,p7 q.2.2]
def B6{a b:Ko}(h:p7 a=p7 b):a=b:=by
 cases a<;>cases b<;>simp[p7]at h<;>rw[h]
def Ly{p q:De}(h:j8 p=j8 q):p=q:=by
 let⟨s,a,b⟩:=p;let⟨s',a',b'⟩:=q;simp only[j8,List.cons.injEq,and_true,Key.inr.injEq]at h;rw[h.1,B6 h.2.1,B6 h.2.2]
def Lz(q:De):mF (a0 q)=some (j8 q):=by
 let⟨s,a,b⟩:=q;cases a<;>cases b<;>rfl
def LC(q:De):xv (j8 q)=a0 q:=by
 let⟨s,a,b⟩:=q;cases a<;>cases b<;>rfl
def dY(l:List De):List (List Key×D):=l.map λq=>(j8 q,.bl true)
noncomputable instance Tp (q:De) (l:List De):Decidable (q∈l):=@List.instDecidableMemOfLawfulBEq De instBEqOfDecidableEq inferInstance q l
def nu(acc:List De)(r:Row):List De:=match ic r with
 |some q=>if q∈acc then acc else acc++[q]
 |none=>acc
def kn(rs:List Row):List De:=rs.foldl nu []
def LD(acc:List De)(r:Row):(nu acc r).length≤acc.length+1:=by
 unfold nu;split
 ·split<;>simp
 ·omega
def B7(rs:List Row)(i:Nat)(r:Row)(h:rs[i]?=some r):kn (rs.take (i+1))=nu (kn (rs.take i)) r:=by
 unfold kn;rw[um,h,List.foldl_append];rfl
theorem wF(rs:List Row):∀i,(kn (rs.take i)).length≤i
 |0=>by simp[kn]
 |i+1=>by
  have:=wF rs i;cases h:rs[i]? with
  |none =>
   let e:rs.take (i+1)=rs.take i:=by rw[um,h];simp
   rw[e];omega
  |some r =>
   rw[B7 rs i r h];have:=LD (kn (rs.take i)) r;omega
def GN{rs:List Row}:kn (rs.take rs.length)=kn rs:=by rw[yj]
def PN{r:Row}{l:List De}(hl:l.length≤500)(A0 o3:Us):∃dZ,qa [A0,.bo\.dt (dY l),.al\r.d,o3]=some (.nx [A0,.bo\.dt (dY (nu l r)),.al\r.d,dZ]):=by
 let s1:(dY l).length<sizeLine:=by simp only[dY,ln];exact dP hl (by decide)
 unfold qa;rw[aw (e':=[A0,.bo\.dt (dY l),.al\r.d,.fr\dd (ic r)]) (by
  simp! [aE,aJ,ag,ai,jV,gz,gy,id_eq,oq,mq,mn,vY,BK,tz,tq])]
 unfold nu;cases hd:ic r with
 |none =>
  rw[bw rfl];exact⟨_,rfl⟩
 |some q =>
  rw[bO rfl];refine⟨some (.fr,a0 q),?_⟩;let hp:putD (dY l) (j8 q) (.bl true)=dY (if q∈l then l else l++[q]):=by
   by_cases hq:q∈l
   ·rw[if_pos hq];exact Lx (λkv lG _=>by let⟨x,_,rfl⟩:=bV.mp lG;rfl) ⟨(j8 q,.bl true),bV.mpr ⟨q,hq,rfl⟩,rfl⟩
   ·rw[if_neg hq,Bf (λkv lG=>by let⟨x,hx,rfl⟩:=bV.mp lG;exactλz=>hq (Ly z▸hx))];simp[dY]
  simp! [rY,jV,jC,gz,gy,id_eq,oq,dd,Lz,C0,if_true,mG,own,s1,hp,tz,tq]
def LJ{rs:List Row}{i:Nat}{d:D}(h:(rs.map Row.d)[i]?=some d):∃r,rs[i]?=some r∧d=r.d:=by
 rw[dN]at h;cases e:rs[i]? with
 |none=>rw[e]at h;cases h
 |some r=>rw[e]at h;cases h;exact⟨r,rfl,rfl⟩
def v5{rs:List Row}(hl:rs.length≤400):kc [Row.d∘rs]=some (.un,.lst ((kn rs).map a0)):=by
 let⟨e',l1,o2,o3,he⟩:=dm (g:=gN 2) (b:=qa) (m:=.al) (ds:=rs.map Row.d) (e:=[.al\Row.d∘rs,.bo\.dt (dY []),none,none])
  (λi e=>∃o2 o3,e=[.al\Row.d∘rs,.bo\.dt (dY (kn (rs.take i))),o2,o3]) ⟨none,none,rfl⟩
  (λi d e hd bx=>by
   let⟨o2,o3,he⟩:=bx;subst he;let⟨r,hr,rfl⟩:=LJ hd;let hi:i<rs.length:=(bQ.mp hr).1;let zt:=wF rs i;let⟨dZ,q⟩:=PN (r:=r) (l:=kn (rs.take i)) ∅ (.al\Row.d∘rs) o3;rw[←B7 rs i r hr]at q;exact⟨_,_,rfl,q,_,dZ,rfl⟩)
 subst he;rw[ln,GN]at l1;unfold kc fn zP;simp only[bW,aR,aZ];rw[aw (e':=[.al\Row.d∘rs,.bo\.dt (dY []),none,none]) rfl];rw[aw (e':=[.al\Row.d∘rs,.bo\.dt (dY (kn rs)),o2,o3]) (by
  rw[dq,show ck 0 [.al\Row.d∘rs,.bo\.dt (dY []),none,none]=[.al\Row.d∘rs,.bo\.dt (dY []),none,none] from rfl];simp! [b4,cN,jV,gz,gy,id_eq,oq,iB,oy];exact l1)]
 simp! [aN,bY,ag,ai,jV,gz,gy,id_eq,oq,nU,own,true_or,if_true,CZ];congr 3;unfold dY;rw[gU];exact mU λq _=>LC q
def Ec(rs:List Row):(kn rs).length≤rs.length:=by have:=wF rs rs.length;rw[GN]at this;exact this
def QH(l:List De)(r:Row)(j:Nat):Bool:=match ic r,l[j]? with
 |some q,some q'=>decide (q=q')
 |_,_=>false
abbrev isNm(a:Ko)(x:Str):Bool:=match a with
 |.inr y=>decide (x=y)
 |.inl _=>false
def GO(o:Option Str)(q:De):Bool:=match o with
 |some x=>isNm q.2.1 x||isNm q.2.2 x
 |none=>false
def SX(l:List De)(o:Option Str)(j:Nat):Bool:=match l[j]? with
 |some q=>GO o q
 |none=>false
def JZ{c:Up}{b:Ul}(Iv:Nat→Ev→Prop)(Rt:M→D→Prop)
    (hs:∀n e,Iv n e→c e=some false∨(c e=some true∧((∃e2 n2,(b e=some (.nx e2)∨b e=some (.ct e2))∧Iv n2 e2∧n2<n)∨∃e2 m d,b e=some (.rt e2 m d)∧Rt m d))) {n:Nat}{e:Ev} (h0:Iv n e) :
    (∃e' n',gE c b e=some (.nx e')∧Iv n' e'∧c e'=some false)∨∃e' m d,gE c b e=some (.rt e' m d)∧Rt m d:=by
  have:∀(k n:Nat) e,n≤k→Iv n e→(∃e' n',b0 c b (k+1) e=some (.nx e')∧Iv n' e'∧c e'=some false)∨∃e' m d,b0 c b (k+1) e=some (.rt e' m d)∧Rt m d:=by
    intro k
    induction k with
    |zero =>
      intro n e hn hi;rcases hs n e hi with h|⟨h,⟨e2,n2,_,_,z⟩|⟨e2,m,d,h1,h2⟩⟩
      · exact .inl ⟨e,n,by simp[b0,h],hi,h⟩
      · omega
      · exact .inr ⟨e2,m,d,by rw[b0,h,oq,if_pos rfl,h1,oq],h2⟩
    |succ k ih =>
      intro n e hn hi;rcases hs n e hi with h|⟨h,⟨e2,n2,h1,h2,h3⟩|⟨e2,m,d,h1,h2⟩⟩
      · exact .inl ⟨e,n,by simp[b0,h],hi,h⟩
      · have w:b0 c b (k+1+1) e=b0 c b (k+1) e2:=by
          rw[b0,h,oq,if_pos rfl];rcases h1 with h1|h1<;>rw[h1,oq]
        rw[w];exact ih n2 e2 ∅ h2
      · exact .inr ⟨e2,m,d,by rw[b0,h,oq,if_pos rfl,h1,oq],h2⟩
  rcases this n n e (aK _) h0 with⟨e',n',h1,h2,h3⟩|⟨e',m,d,h1,h2⟩
  · exact .inl ⟨e',n',vy h1,h2,h3⟩
  · exact .inr ⟨e',m,d,vy h1,h2⟩
abbrev cz(p:Nat→Bool):Nat→Nat
 |0=>0
 |k+1=>cz p k+(if p k=true then 0 else 1)
abbrev de(P:Nat→Nat→Bool)(K:Nat):Nat→Nat
 |0=>0
 |n+1=>de P K n+cz (P n) K
structure SI (Bk:List (U0))(pass P0:Nat→Nat→Bool)(N K:Nat)(P:Nat→Nat→Bool):Prop where
 up:∀n j,n<N→j<K→P0 n j=true→P n j=true
 sd:∀Q:Nat→Nat→Prop,(∀n j,n<N→j<K→P0 n j=true→Q n j)→(∀n m j,n<N→m∈Bk.getD n []→j<K→Q n j→pass m j=true→Q m j)→∀n j,n<N→j<K→P n j=true→Q n j
abbrev lift(rs:List Row)(g:Row→Nat→Bool)(n j:Nat):Bool:=match rs[n]? with
 |some r=>g r j
 |none=>false
def LK{rs:List Row}{g:Row→Nat→Bool}{n:Nat}{r:Row}(h:rs[n]?=some r)(j:Nat):lift rs g n j=g r j:=by unfold lift;rw[h]
def GP(l:List De)(r:Row)(j:Nat):Bool:=true&&!QH l r j
def SY(l:List De)(r:Row)(j:Nat):Bool:=GP l r j&&(Row.jO r||SX l (sets r) j)
inductive xO (rs:List Row)(j:Nat):Nat→Prop
 |stop {n:Nat}{r:Row}:rs[n]?=some r→SY (kn rs) r j=true→xO rs j n
 |step {n m:Nat}{r:Row}:rs[n]?=some r→GP (kn rs) r j=true→aH rs n m→xO rs j m→xO rs j n
theorem An{α:Type}{fe:Uq}{m m':M}{fr:Ev}{g f:α→D}:∀rs:List α,(∀r∈rs,fe (some (m,g r)::fr)=some (m',f r))→dG ia fe m fr (rs.map g)=some ((rs.map f).map λy=>(m',y))
 |[],_=>rfl
 |r::rs,h=>by
  let ih:=An (fe:=fe) (m:=m) (m':=m') (fr:=fr) (g:=g) (f:=f) rs λx hx=>h x (bP _ hx);rw[mq,dG,show ia (some (m,g r)::fr)=some true from rfl,oq,if_pos rfl,h r bC,oq,ih,oq];rfl
abbrev pK(q:Int×Int):List Key:=[.inl q.1,.inl q.2]
def Ud(l:List (Int×Int))(f:Int×Int→D):List (List Key×D):=l.foldl (λd q=>putD d (pK q) (f q)) []
abbrev Ue:List Key→Int×Int
 |[.inl n,.inl m]=>(n,m)
 |_=>(0,0)
def p1(m n:M)(q:Int×Int):aC (m,vg q) (n,.int 1)=some (aI m,.int q.2):=rfl
def Ol(a b:Ko):PyData.eqv (toPy (kD a)) (toPy (kD b))=decide (a=b):=by
 cases a<;>cases b<;>simp[kD,toPy,PyData.eqv]<;>(rw[mP];simp)
def Om(p q:De):PyData.eqv (toPy (a0 p)) (toPy (a0 q))=decide (p=q):=by
 let⟨s,a,b⟩:=p;let⟨s',a',b'⟩:=q;simp only[a0,toPy,cF,PyData.eqv,PyData.eqvAll,Ol];by_cases h1:s=s'<;>by_cases h2:a=a'<;>by_cases h3:b=b'<;>simp[h1,h2,h3]
def J0(q:De):J.plain (a0 q)=true:=by
 let k:∀a:Ko,J.plain (kD a)=true:=λa=>by cases a<;>simp[kD,J.plain]
 simp[a0,J.plain,J.cV,k]
def Bh(q:De):(toPy (a0 q)).depth≤10:=by
 let k:∀a:Ko,(toPy (kD a)).depth=0:=λa=>by cases a<;>simp[kD,toPy,PyData.depth]
 simp[a0,toPy,cF,PyData.depth,PyData.depthAll,k]
structure RI (S:List (U0))(st ks ws:U0):Prop where
 nd:ks.Nodup
 lt:∀x∈ks,x<S.length
 le:ws.length≤ks.length+900
 sub:∀x∈ws,x∈ks
 be:∀x∈st,x∈ks
 cl:∀(n:Nat) l m,n∈ks→n∉ws→S[n]?=some l→m∈l→m∈ks
def RI.on{S:List (U0)}{st ks ws new l:U0}{n:Nat}(h:RI S st ks (ws++[n]))(hn:S[n]?=some l)(q2:(ks++new).Nodup)(q3:∀x∈ks++new,x<S.length)(q4:∀m∈l,m∈ks++new):RI S st (ks++new) (ws++new):=by
 refine⟨q2,q3,?_,λx hx=>?_,λx hx=>iQ _ (h.be x hx),λx lx m hx GQ zu GR=>?_⟩
 ·have:=h.le;rw[cK]at this;rw[cK,cK];omega
 ·exact(fG.mp hx).elim (λz=>iQ _ (h.sub x (iQ _ z))) (eQ _)
 ·rcases fG.mp hx with z|z
  ·by_cases GU:x=n
   ·rw[GU,hn]at zu;cases zu;exact q4 m GR
   ·exact iQ _ (h.cl x lx m z (λhw=>(fG.mp hw).elim (λy=>GQ (iQ _ y)) λy=>GU (List.mem_singleton.mp y)) zu GR)
  ·exact absurd (eQ _ z) GQ
def Oo{m n:M}(o:Option De)(q:De):mK (m,dd o) (n,a0 q)=some (.fr,.bl (decide (o=some q))):=by
 cases o with
 |none=>rfl
 |some p =>
  let ok:gi (a0 p) (a0 q)=true:=by
   let h1:=Bh q;let h2:=Bh p;let hl:kE (a0 p) (a0 q)=true:=rfl;simp only[gi,J0,hl,Bool.and_self,Bool.true_and];exact bz ∅
  show gj (m,a0 p) (n,a0 q)=_;simp only[gj,ok,if_true,Om,Option.some.injEq]
theorem Ao{α:Type}{fc:Up}{fe:Uq}{m m':M}{fr:Ev}{g a b c:α→D}{p:α→Bool}(hg:∀x,r6 (g x)=some (a x,b x)):∀l:List α,(∀x∈l,fc (some (aI m,a x)::some (aI m,b x)::fr)=some (p x))→(∀x∈l,fe (some (aI m,a x)::some (aI m,b x)::fr)=some (m',c x))→jE fc fe m fr (l.map g)=some (((l.filter p).map c).map λy=>(m',y))
 |[],_,_=>rfl
 |x::l,h1,h2=>by
  let ih:=Ao (fc:=fc) (fe:=fe) (m:=m) (m':=m') (fr:=fr) (c:=c) (p:=p) hg l (λy hy=>h1 y (bP _ hy)) (λy hy=>h2 y (bP _ hy));rw[mq,jE,hg,oq,h1 x bC,oq,List.filter_cons];cases hp:p x with
  |true =>
   rw[if_pos rfl,if_pos rfl,h2 x bC,oq,ih];rfl
  |false =>
   rw[if_neg aL,if_neg aL,ih]
def iF(rs:List Row)(q:De):U0:=(rs.zipIdx.filter λp=>decide (ic p.1=some q)).map (·.2)
def B8(rs:List Row)(q:De):(iF rs q).length≤rs.length:=by
 unfold iF;rw[ln];exact cC (yk _ _) (by rw[List.length_zipIdx];exact aK _)
def Oq{rs:List Row}{k:Nat}{q:De}(hq:(kn rs)[k]?=some q):L2.aT ((kn rs).map a0) (k:Int)=some (a0 q):=by
 let hk:k<(kn rs).length:=(bQ.mp hq).1;rw[J.kg (by simpa using hk),oU,(bQ.mp hq).2]
def Ot{rs:List Row}(hl:rs.length≤300){k:Nat}{q:De}(hq:(kn rs)[k]?=some q):p9 [Row.d∘rs,↥k]=some (.un,.lst (av (iF rs q))):=by
 let e1:=v5 (rs:=rs) ∅;let S0:=Oq hq;let he:bX (rs.map Row.d)=rs.zipIdx.map λp=>.tup [.int (p.2:Int),p.1.d]:=by
  unfold bX;rw[List.mapIdx_eq_zipIdx_map,List.zipIdx_map,gU];rfl
 let hc:=Ao (α:=Row×Nat) (fc:=jB (ah mK (aJ j9 (ag (jV 1) ai)) (jV 2))) (fe:=jV 0) (m:=.al) (m':=.al) (fr:=[.fr\a0 q]) (g:=λp=>.tup [.int (p.2:Int),p.1.d]) (a:=λp=>.int (p.2:Int)) (b:=λp=>p.1.d) (c:=λp=>.int (p.2:Int)) (p:=λp=>decide (ic p.1=some q)) (λ_=>rfl) rs.zipIdx (λx _=>bl (o2 (ca (cn rfl rfl) (vY x.1)) rfl (Oo _ q)) rfl) λ_ _=>rfl;let hn:((rs.zipIdx.filter λp=>decide (ic p.1=some q)).map λp=>D.int (p.2:Int))=av (iF rs q):=by
  unfold av iF;rw[gU];rfl
 rw[hn,←he]at hc;let Ug:=B8 rs q;let hg:cQ ((av (iF rs q)).map λy=>(M.al,y))=some (.un,.lst (av (iF rs q))):=v3 (by rw[g7];omega) λx hx=>by
  unfold av at hx;let⟨n,_,rfl⟩:=bV.mp hx;rfl
 unfold p9 fn zE;simp only[bW,aR,aZ];rw[aw (e':=[.al\Row.d∘rs,.al\↥k,.fr\a0 q]) (se (o2 (ca (cn rfl rfl) e1) rfl (bL S0)) rfl rfl)];rw[re (bo (show fh _ _=some (.al,bX (rs.map Row.d))from rfl) (bo hc hg))];rfl
abbrev kw(C:U0)(n:Nat):Str:=if n∈C then "keep" else "read"
abbrev zv(R:U0)(f:Nat→Str):Ut:=R.map λn:Nat=>.tup [↥n,.str (f n)]
def g4(kp:List (Int×Int))(R:U0)(f:Nat→Str):D:=.tup [.tup (zr kp),.tup (zv R f)]
def cg(rs:List Row)(q:De)(n:Nat):Bool:=match rs[n]? with
 |some r=>GO (sets r) q
 |none=>false
abbrev Fe(rs:List Row)(q:De)(kp:List (Int×Int))(R C:U0)(x:Int×Int):Bool:=!decide (x.1=-1)&&(!decide (x∈kp)&&(!decide (x.1.toNat∈R∧kw C x.1.toNat = "keep")&&!cg rs q x.1.toNat))
def Ou{r:Row}:Row.jO r=true↔r=.en:=by cases r<;>simp[Row.jO]
def Dm{r:Row}:Row.jN r=true↔∃t,r=.go t:=by cases r<;>simp[Row.jN]
def Dp(es:U0):gi (⇑es) (.lst [])=true∧PyData.eqv (toPy (⇑es)) (toPy (.lst []))=es.isEmpty:=by
 let p1:J.cV (av es)=true:=kf λd hd=>by
  let⟨q,_,rfl⟩:=bV.mp hd;simp[J.plain]
 refine⟨?_,?_⟩
 ·simp only[gi,J.plain,p1,J.cV,kE,Bool.and_self,Bool.true_and];exact bz (by simp[toPy,cF,PyData.depth,PyData.depthAll])
 ·cases es<;>simp[av,toPy,cF,PyData.eqv,PyData.eqvAll]
def v7{m n:M}(es:U0):dA (m,⇑es) (n,.lst [])=some (.fr,.bl (!es.isEmpty)):=by
 simp only[dA,(Dp es).1,if_true,(Dp es).2]
def PQ{α:Type}{a:α}{l:List α}:L2.aT (a::l) 0=some a:=by
 have:=kg (l:=a::l) (k:=0) (by simp);simpa using this
def EH{rs:List Row}(g:Good rs){n:Nat}(h:n<rs.length):lJ [Row.d∘rs,↥n]=some (.un,.lst (av (gp rs n))):=by
 let hr:rs[n]?=some (rs[n]'h):=fI h;rw[Lw rs n _ hr,←Oe g];unfold mN;rw[hr]
theorem vB{A0:Us}{N:Nat}(hN:N≤800):∀(ms ks ws:U0) (o3:Us),(∀m∈ms,m<N)→ks.Nodup→(∀x∈ks,x<N)→ws.length≤ks.length+900 →
  ∃new dZ,forL (gN 3) lK .fr (av ms) [A0,.bo\.dk (bE ks),.bo\⇑ws,o3]=some (.nx [A0,.bo\.dk (bE (ks++new)),.bo\.lst (av (ws++new)),dZ])∧(ks++new).Nodup∧(∀x∈ks++new,x<N)∧(∀m∈ms,m∈ks++new)∧∀x∈new,x∈ms
 |[],ks,ws,o3,_,h1,h2,_=>⟨[],o3,by simp[av,forL],by simpa using h1,by simpa using h2,(λm hm=>nomatch hm),λx hx=>nomatch hx⟩
 |m::ms,ks,ws,o3,hm,h1,h2,h3=>by
  let zt:=lN N ks h1 h2;let ny:=hm m bC;rw[show av (m::ms)=↥m::av ms from rfl,forL,show gN 3 (M.fr,↥m) [A0,.bo\.dk (bE ks),.bo\⇑ws,o3]=some [A0,.bo\.dk (bE ks),.bo\⇑ws,.fr\↥m] from rfl,oq];let hc:jB (cX true (jV 3) (jV 1)) [A0,.bo\.dk (bE ks),.bo\⇑ws,.fr\↥m]=some (!decide (m∈ks)) :=
   bl (GK rfl rfl) rfl
  by_cases hk:m∈ks
  ·let⟨new,dZ,q1,q2,q3,q4,q5⟩:=vB (A0:=A0) hN ms ks ws (.fr\↥m) (λx hx=>hm x (bP _ hx)) h1 h2 h3;refine⟨new,dZ,?_,q2,q3,λx hx=>?_,λx hx=>bP _ (q5 x hx)⟩
   ·rw[show lK _=some (.nx [A0,.bo\.dk (bE ks),.bo\⇑ws,.fr\↥m]) by
     unfold lK;rw[bw (by rw[hc,bz hk];rfl)];rfl]
    exact q1
   ·rcases cS.mp hx with rfl|hx
    ·exact iQ _ hk
    ·exact q4 x hx
  ·let vh:(ks++[m]).Nodup:=by
    rw[yg];refine⟨h1,by simp,λa ha b hb=>?_⟩;have:b=m:=by simpa using hb
    subst this;exactλz=>hk (z▸ha)
   let vi:∀x∈ks++[m],x<N:=λx hx=>by
    rcases fG.mp hx with z|z
    ·exact h2 x z
    ·have:x=m:=by simpa using z
     omega
   let⟨new,dZ,q1,q2,q3,q4,q5⟩:=vB (A0:=A0) hN ms (ks++[m]) (ws++[m]) (.fr\↥m) (λx hx=>hm x (bP _ hx)) vh vi (by simp;omega);let s1:(bE ks).length<sizeLine:=by rw[Dk];exact dP (show ks.length≤800 by omega) (by decide)
   let s2:(av ws).length<sizeLine:=by rw[g7];exact dP (show ws.length≤1700 by omega) (by decide)
   simp only[List.append_assoc,List.singleton_append]at q1 q2 q3 q4;refine⟨m::new,dZ,?_,q2,q3,λx hx=>?_,λx hx=>(cS.mp hx).elim (λz=>z▸bC) λz=>bP _ (q5 x z)⟩
   ·rw[show lK _=some (.nx [A0,.bo\.dk (bE (ks++[m])),.bo\.lst (av (ws++[m])),.fr\↥m]) by
     unfold lK;rw[bO (by rw[hc,b5 hk];rfl),aw (e':=[A0,.bo\.dk (bE (ks++[m])),.bo\⇑ws,.fr\↥m]) (dp rfl rfl rfl rfl rfl s1 (by rw[Og hk];rfl))];exact ap rfl rfl rfl s2 (by rw[vI];rfl)]
    exact q1
   ·rcases cS.mp hx with rfl|hx
    ·simp
    ·exact q4 x hx
def fp{i k:Nat}{F:Ur}{g:M×D→Ev→Option Ev}{b:Ul}{e e':Ev}{y:M×Ut}{l:Ut}{j:Int}{x:M×D}{it:M×Ut}{r:Option Fl}(h:eJ k e=some y)(h2:y.2=l++[.int j])(h3:e.set k (some (y.1,.lst l))=e')(h4:jV i e'=some x)(h5:cN (aJ F (ag (jV i) (ag (jC (.int j)) ai))) e'=some it)(h6:forL g b it.1 it.2 e'=r):r9 i k F g b e=r:=by
 refine bo h ?_;rw[h2];refine bo (a:=.int j) (by simp) (bo (a:=j) rfl ?_);rw[List.dropLast_concat,h3];exact bo h5 h6
def IA{rs:List Row}(g:Good rs)(hN:rs.length≤800):∃ks:U0,qd [Row.d∘rs]=.un\.dk (bE ks)∧0∈ks∧∀n m,n∈ks→m∈gp rs n→m∈ks:=by
 let hp:=g.pos;let hS:∀n,n<rs.length→((List.range rs.length).map (gp rs))[n]?=some (gp rs n):=λn hn=>by simp[hn]
 let hC:∀(ks ws:U0) (o3:Us),vm [.al\Row.d∘rs,.bo\.dk (bE ks),.bo\⇑ws,o3]=some (!ws.isEmpty):=λks ws o3=>bl (o2 rfl rfl (v7 ws)) rfl;let⟨e',l1,⟨ks,ws,o3,he,ri⟩,hc⟩:=Ie (c:=vm) (b:=vk) (e:=[.al\Row.d∘rs,.bo\.dk (bE [0]),.bo\.lst (av [0]),none])
  (λe=>∃(ks ws:U0) (o3:Us),e=[.al\Row.d∘rs,.bo\.dk (bE ks),.bo\⇑ws,o3]∧RI ((List.range rs.length).map (gp rs)) [0] ks ws)
  (λe=>2*(rs.length-GJ 1 e)+Ea 2 e)
  ⟨[0],[0],none,rfl,(by simp),(λx h=>by simp at h;simp[h,hp]),(by simp),(λx h=>h),(λx h=>h),λn l m a b=>absurd a b⟩
  (λe bx=>by
   let⟨ks,ws,o3,he,ri⟩:=bx;subst he;let lt:∀x∈ks,x<rs.length:=λx hx=>by simpa using ri.lt x hx
   let zt:=lN rs.length ks ri.nd lt;rw[hC];rcases List.eq_nil_or_concat ws with rfl|⟨p8,n,rfl⟩
   ·exact .inl rfl
   rw[List.concat_eq_append]at *
   let b3:=lt n (ri.sub n (by simp));let hle:=ri.le;rw[cK]at hle;refine .inr ⟨by simp,?_⟩;let⟨new,dZ,q1,q2,q3,q4,q5⟩:=vB (A0:=.al\Row.d∘rs) hN (gp rs n) ks p8 o3 (λm hm=>by let⟨r,_,_,z⟩:=JY g hm;exact z) ri.nd lt ∅;refine⟨_,?_,⟨ks++new,p8++new,dZ,rfl,ri.on (hS n b3) q2 (λx hx=>by simpa using q3 x hx) q4⟩,?_⟩
   ·unfold vk;exact fp (y:=(.bo,av (p8++[n]))) (l:=av p8) (j:=(n:Int)) rfl (vI p8 n).symm rfl rfl (bo (ca (cn rfl (cn rfl rfl)) (EH g b3)) rfl) q1
   ·let QI:=lN rs.length (ks++new) q2 q3;simp only[GJ,Ea,gz,gy,Dk,g7,List.length_append,List.length_cons,List.length_nil]at QI ⊢;clear hN hle;omega)
 subst he;let hz:ws=[]:=by
  rw[hC]at hc;have:=cY hc;cases ws with
  |nil=>rfl
  |cons a b=>cases this
 subst hz;refine⟨ks,?_,ri.be 0 (by simp),(λn m a b=>ri.cl n (gp rs n) m a (λz=>nomatch z) (hS n (by simpa using ri.lt n a)) b)⟩;unfold qd fn zK;simp only[bW,aR,aZ];rw[aw (e':=[.al\Row.d∘rs,.bo\.dk (bE [0]),none,none]) rfl];rw[aw (e':=[.al\Row.d∘rs,.bo\.dk (bE [0]),.bo\.lst (av [0]),none]) rfl];rw[aw l1];rfl
abbrev upd(f:Nat→Nat)(n v:Nat):Nat→Nat:=λx=>if x=n then v else f x
abbrev aO(l:U0)(f:Nat→Nat):List (Key×D):=l.map λ(n:Nat)=>(.inl (n:Int),.int (f n:Int))
def rH{l:U0}{f:Nat→Nat}{n:Nat}:(∃kv∈aO l f,kv.1=Key.inl (n:Int))↔n∈l:=by
 unfold aO;constructor
 ·intro ⟨kv,h,e⟩;let⟨x,hx,rfl⟩:=bV.mp h;have:x=n:=Int.ofNat.inj (Key.inl.inj e);exact this▸hx
 ·exactλh=>⟨_,bV.mpr ⟨n,h,rfl⟩,rfl⟩
def Ov{l:U0}{f:Nat→Nat}{n:Nat}(h:n∈l):cB (aO l f) (.inl (n:Int))=some (.int (f n:Int)):=Iz (λkv hk e=>by
 let⟨x,hx,rfl⟩:=bV.mp hk;have:x=n:=Int.ofNat.inj (Key.inl.inj e);rw[this]) (rH.mpr h)
def PR{l:U0}{f:Nat→Nat}{n:Nat}:(cB (aO l f) (.inl (n:Int))).isSome=decide (n∈l):=by
 rw[mP,Hl,rH,decide_eq_true_eq]
def Dq{l:U0}{f:Nat→Nat}{n v:Nat}:putD (aO l f) (.inl (n:Int)) (↥v)=aO (if n∈l then l else l++[n]) (upd f n v):=by
 by_cases h:n∈l
 ·rw[if_pos h];unfold putD;rw[if_pos (by let⟨kv,h1,h2⟩:=rH.mpr h;exact yi.mpr ⟨kv,h1,bz h2⟩)];unfold aO;rw[gU];refine mU λx hx=>?_;by_cases e:x=n
  ·subst e;simp[upd]
  ·let e2:¬(x:Int)=(n:Int):=by omega
   simp[upd,e,e2]
 ·rw[if_neg h,Bf λkv hk e=>h (rH.mp ⟨kv,hk,e⟩)];unfold aO;rw[fJ];congr 1
  ·refine mU λx hx=>?_;have:x≠n:=λz=>h (z▸hx);simp[upd,this]
  ·simp[upd]
def Dr(l:U0)(f:Nat→Nat):(aO l f).length=l.length:=by simp[aO]
def zx{b:Bool}{fk fd:Uq}{e:Ev}{m n:M}{x:Nat}{l:U0}{f:Nat→Nat}(h:fk e=some (m,↥x))(h2:fd e=some (n,.dk (aO l f))):cX b fk fd e=some (.fr,.bl (if b then !decide (x∈l)else decide (x∈l))):=bo h (bo h2 (bo rfl (bo rfl (by rw[PR]))))
def zy{fk fd:Uq}{e:Ev}{m n:M}{x:Nat}{l:U0}{f:Nat→Nat}(h2:fd e=some (n,.dk (aO l f)))(h:fk e=some (m,↥x))(hx:x∈l):hZ fd fk e=some (aI n,.int (f x:Int)):=bo h2 (bo h (bo rfl (bo rfl (bo (Ov hx) rfl))))
abbrev sm(g:Nat→Nat):Nat→Nat
 |0=>0
 |n+1=>sm g n+g n
theorem Ed{g g':Nat→Nat}:∀{N:Nat},(∀n,n<N→g' n≤g n)→sm g' N≤sm g N
 |0,_=>aK _
 |N+1,h=>Nat.add_le_add (Ed λn hn=>h n ∅) (h N ∅)
theorem wQ{g g':Nat→Nat}{x:Nat}:∀{N:Nat},(∀n,n<N→g' n≤g n)→x<N→g' x<g x→sm g' N<sm g N
 |0,_,h,_=>absurd h (oR _)
 |N+1,h,hx,hg=>by
  let h1:=h N ∅;by_cases e:x=N
  ·subst e;have:=Ed (N:=x) λn hn=>h n ∅;show sm g' x+g' x<sm g x+g x;omega
  ·have:=wQ (N:=N) (x:=x) (λn hn=>h n ∅) ∅ hg;show sm g' N+g' N<sm g N+g N;omega
abbrev fg(N:Nat)(l:U0)(f:Nat→Nat)(n:Nat):Nat:=if n∈l then f n else N
structure FI (rs:List Row)(l:U0)(f:Nat→Nat):Prop where
 nd:l.Nodup
 lt:∀x∈l,x<rs.length
 bd:∀x∈l,f x<l.length
def FI.put{rs:List Row}{l:U0}{f:Nat→Nat}(h:FI rs l f){n m:Nat}(hn:n<rs.length)(hl:m∈l)(hc:n∉l∨f m+1<f n) :
  FI rs (if n∈l then l else l++[n]) (upd f n (f m+1))∧sm (fg rs.length (if n∈l then l else l++[n]) (upd f n (f m+1))) rs.length<sm (fg rs.length l f) rs.length:=by
 let un:upd f n (f m+1) n=f m+1:=if_pos rfl;let mb:=h.bd m hl;by_cases b3:n∈l
 ·let aW:f m+1<f n:=hc.resolve_left λz=>z b3;let nb:=h.bd n b3;rw[if_pos b3];refine⟨⟨h.nd,h.lt,λx hx=>?_⟩,wQ (x:=n) (λx hx=>?_) hn ?_⟩
  ·unfold upd;split
   ·omega
   ·exact h.bd x hx
  ·unfold fg;by_cases e:x=n
   ·subst e;rw[if_pos b3,if_pos b3,un];omega
   ·rw[show upd f n (f m+1) x=f x from if_neg e];exact aK _
  ·unfold fg;rw[if_pos b3,if_pos b3,un];omega
 ·rw[if_neg b3];let vh:(l++[n]).Nodup:=by
   rw[yg];refine⟨h.nd,by simp,λa ha b hb=>?_⟩;have:b=n:=by simpa using hb
   subst this;exactλz=>b3 (z▸ha)
  let vi:∀x∈l++[n],x<rs.length:=λx hx=>by
   rcases fG.mp hx with z|z
   ·exact h.lt x z
   ·have:x=n:=by simpa using z
    omega
  let S1:=lN _ _ vh vi;rw[cK,List.length_singleton]at S1;refine⟨⟨vh,vi,λx hx=>?_⟩,wQ (x:=n) (λx hx=>?_) hn ?_⟩
  ·rw[cK,List.length_singleton];unfold upd;split
   ·omega
   ·rename_i e;have:=h.bd x ((fG.mp hx).resolve_right λz=>e (by simpa using z));omega
  ·unfold fg;by_cases e:x=n
   ·subst e;rw[if_pos (by simp),if_neg b3,un];omega
   ·rw[show upd f n (f m+1) x=f x from if_neg e];by_cases vj:x∈l
    ·rw[if_pos (iQ _ vj),if_pos vj];exact aK _
    ·rw[if_neg vj,if_neg (by simp[vj,e])];exact aK _
  ·unfold fg;rw[if_pos (by simp),if_neg b3,un];omega
def Ch(N:Nat)(l:U0)(f:Nat→Nat)(b:Bool)(l':U0)(f':Nat→Nat)(b':Bool):Prop:=(b'=b∧l'=l∧f'=f)∨(b'=true∧sm (fg N l' f') N<sm (fg N l f) N)
def Ch.trans{N:Nat}{l l1 l2:U0}{f f1 f2:Nat→Nat}{b b1 b2:Bool}(h1:Ch N l f b l1 f1 b1)(h2:Ch N l1 f1 b1 l2 f2 b2):Ch N l f b l2 f2 b2:=by
 rcases h2 with⟨rfl,rfl,rfl⟩|⟨h,h'⟩
 ·exact h1
 ·refine .inr ⟨h,?_⟩;rcases h1 with⟨rfl,rfl,rfl⟩|⟨_,k⟩
  ·exact h'
  ·omega
def PV{rs:List Row}{A0:Us}{l:U0}{f:Nat→Nat}{b:Bool}(hN:rs.length≤400)(h:FI rs l f){n m:Nat}(hn:n<rs.length) :
  ∃l' f' b',qq [A0,.bo\.dk (aO l f),.fr\↥n,.fr\.bl b,.fr\↥m]=some (.nx [A0,.bo\.dk (aO l' f'),.fr\↥n,.fr\.bl b',.fr\↥m])∧FI rs l' f'∧Ch rs.length l f b l' f' b':=by
 let hl:=lN _ _ h.nd h.lt;let c1:jB (cX false (jV 4) (jV 1)) [A0,.bo\.dk (aO l f),.fr\↥n,.fr\.bl b,.fr\↥m]=some (decide (m∈l)):=bl (zx rfl rfl) rfl;let c2:jB (cX true (jV 2) (jV 1)) [A0,.bo\.dk (aO l f),.fr\↥n,.fr\.bl b,.fr\↥m]=some (!decide (n∈l)):=bl (zx rfl rfl) rfl;unfold qq;by_cases ny:m∈l
 ·rw[bz ny]at c1;let c3:n∈l→jB (ah g0 (ah bp (hZ (jV 1) (jV 4)) (jC (.int 1))) (hZ (jV 1) (jV 2))) [A0,.bo\.dk (aO l f),.fr\↥n,.fr\.bl b,.fr\↥m]=some (decide (f m+1<f n)):=λz=>bl (o2 (o2 (zy rfl rfl ny) rfl b7) (zy rfl rfl z) eC) (decide_eq_decide.mpr ∅);by_cases hc:n∉l∨f m+1<f n
  ·let P:=h.put hn ny hc;refine⟨_,_,true,?_,P.1,.inr ⟨rfl,P.2⟩⟩;let cc:(fC (jB (cX false (jV 4) (jV 1))) (gx (jB (cX true (jV 2) (jV 1))) (jB (ah g0 (ah bp (hZ (jV 1) (jV 4)) (jC (.int 1))) (hZ (jV 1) (jV 2)))))) [A0,.bo\.dk (aO l f),.fr\↥n,.fr\.bl b,.fr\↥m]=some true:=by
    by_cases b3:n∈l
    ·rw[bz b3]at c2;have:=c3 b3;rw[bz (hc.resolve_left λz=>z b3)]at this;exact bat c1 (nr c2 this)
    ·rw[b5 b3]at c2;exact bat c1 (bot c2)
   rw[bO cc,aw (e':=[A0,.bo\.dk (aO (if n∈l then l else l++[n]) (upd f n (f m+1))),.fr\↥n,.fr\.bl b,.fr\↥m]) (dp (k:=.inl (n:Int)) (z:=(.bo,aO l f)) (o2 (zy rfl rfl ny) rfl b7) rfl rfl rfl rfl (by rw[Dr];exact dP (show l.length≤400 by omega) (by decide)) (by
    have:=@Dq l f n (f m+1);rw[Int.natCast_succ]at this;rw[←this];rfl))]
   rfl
  ·let b3:n∈l:=Classical.byContradiction λz=>hc (.inl z);let h3:=c3 b3;rw[bz b3]at c2;rw[b5 λz=>hc (.inr z)]at h3;exact⟨l,f,b,by rw[bw (bat c1 (nr c2 h3))];rfl,h,.inl ⟨rfl,rfl,rfl⟩⟩
 ·rw[b5 ny]at c1;exact⟨l,f,b,by rw[bw (p6 c1)];rfl,h,.inl ⟨rfl,rfl,rfl⟩⟩
theorem Dt{rs:List Row}{A0:Us}(hN:rs.length≤400){n:Nat}(hn:n<rs.length):∀(ms l:U0) (f:Nat→Nat) (b:Bool) (o4:Us),FI rs l f →
  ∃l' f' b' lH,forL (gN 4) qq .fr (av ms) [A0,.bo\.dk (aO l f),.fr\↥n,.fr\.bl b,o4]=some (.nx [A0,.bo\.dk (aO l' f'),.fr\↥n,.fr\.bl b',lH])∧FI rs l' f'∧Ch rs.length l f b l' f' b'
 |[],l,f,b,o4,h=>⟨l,f,b,o4,rfl,h,.inl ⟨rfl,rfl,rfl⟩⟩
 |m::ms,l,f,b,o4,h=>by
  let⟨l1,f1,b1,q1,a1,a2⟩:=PV (A0:=A0) (b:=b) (m:=m) hN h hn;let⟨l2,f2,b2,o,q2,a4,a5⟩:=Dt (A0:=A0) hN hn ms l1 f1 b1 (.fr\↥m) a1;refine⟨l2,f2,b2,o,?_,a4,a2.trans a5⟩
  ·rw[show av (m::ms)=↥m::av ms from rfl,forL,show gN 4 (M.fr,↥m) [A0,.bo\.dk (aO l f),.fr\↥n,.fr\.bl b,o4]=some [A0,.bo\.dk (aO l f),.fr\↥n,.fr\.bl b,.fr\↥m] from rfl,oq,q1];exact q2
theorem B9{rs:List Row}(g:Good rs)(hN:rs.length≤400):∀(ns l:U0) (f:Nat→Nat) (b:Bool) (z2 o4:Us),FI rs l f→(∀n∈ns,n<rs.length) →
  ∃l' f' b' S2 lH,forL (gN 2) vv .fr (av ns) [.al\Row.d∘rs,.bo\.dk (aO l f),z2,.fr\.bl b,o4]=some (.nx [.al\Row.d∘rs,.bo\.dk (aO l' f'),S2,.fr\.bl b',lH])∧FI rs l' f'∧Ch rs.length l f b l' f' b'
 |[],l,f,b,z2,o4,h,_=>⟨l,f,b,z2,o4,rfl,h,.inl ⟨rfl,rfl,rfl⟩⟩
 |n::ns,l,f,b,z2,o4,h,hn=>by
  let b3:=hn n bC;let⟨l1,f1,b1,o',q1,a1,a2⟩:=Dt (A0:=.al\Row.d∘rs) hN b3 (gp rs n) l f b o4 h;let⟨l2,f2,b2,p,o,q2,a4,a5⟩:=B9 g hN ns l1 f1 b1 (.fr\↥n) o' a1 λx hx=>hn x (bP _ hx);refine⟨l2,f2,b2,p,o,?_,a4,a2.trans a5⟩
  ·rw[show av (n::ns)=↥n::av ns from rfl,forL,show gN 2 (M.fr,↥n) [.al\Row.d∘rs,.bo\.dk (aO l f),z2,.fr\.bl b,o4]=some [.al\Row.d∘rs,.bo\.dk (aO l f),.fr\↥n,.fr\.bl b,o4] from rfl,oq,show vv [.al\Row.d∘rs,.bo\.dk (aO l f),.fr\↥n,.fr\.bl b,o4]=_ from bo (show cN _ _=some (.fr,av (gp rs n))from bo (ca (cn rfl (cn rfl rfl)) (EH g b3)) rfl) q1];exact q2
def cO(rs:List Row)(i:Nat):U0:=(List.range i).filter λn=>lift rs (λr _=>Row.jO r) n 0
def Ca{rs:List Row}{i n:Nat}:n∈cO rs i↔n<i∧rs[n]?=some .en:=by
 unfold cO lift;rw[oI,mO];refine and_congr_right λ_=>?_;cases rs[n]? with
 |none=>simp
 |some r=>simp[Ou]
def Ow{rs:List Row}(g:Good rs)(hN:rs.length≤400):∃l f,qG [Row.d∘rs]=some (.un,.dk (aO l f)):=by
 let⟨e1,l1,z2,he⟩:=dm (g:=gN 2) (b:=qo) (m:=.fr) (ds:=av (List.range rs.length)) (e:=[.al\Row.d∘rs,.bo\.dk (aO [] λ_=>0),none,none,none])
  (λi e=>∃z2,e=[.al\Row.d∘rs,.bo\.dk (aO (cO rs i) λ_=>0),z2,none,none]) ⟨none,rfl⟩
  (λi d e hd bx=>by
   let⟨z2,he⟩:=bx;subst he;let hi:i<rs.length:=by have:=(bQ.mp hd).1;simpa[av]using this
   have:d=↥i:=by unfold av at hd;rw[dN,yf hi]at hd;cases hd;rfl
   subst this;let hr:rs[i]?=some (rs[i]'hi):=fI hi;let c:jB (ah bA (ah aC (ah aC (jV 0) (jV 2)) (jC (.int 0))) (jC (.str "end"))) [.al\Row.d∘rs,.bo\.dk (aO (cO rs i) λ_=>0),.fr\↥i,none,none]=some (Row.jO (rs[i]'hi)):=(bl (o2 (o2 (o2 rfl rfl (bL (Dl hr))) rfl (jm _ _ _)) rfl hX) rfl).trans (bT some (xM _));refine⟨_,[.al\Row.d∘rs,.bo\.dk (aO (cO rs (i+1)) λ_=>0),.fr\↥i,none,none],rfl,?_,_,rfl⟩;show qo [.al\Row.d∘rs,.bo\.dk (aO (cO rs i) λ_=>0),.fr\↥i,none,none]=_;let e2:cO rs (i+1)=if Row.jO (rs[i]'hi)=true then cO rs i++[i] else cO rs i:=by
    unfold cO;rw[List.range_succ,List.filter_append,List.filter_cons,LK hr];split<;>simp
   unfold qo;cases hE:Row.jO (rs[i]'hi) with
   |true =>
    rw[hE]at c e2;rw[if_pos rfl]at e2;rw[bO c,e2];let ni:i∉cO rs i:=λz=>absurd (Ca.mp z).1 (gR _);let hle:(cO rs i).length≤i:=cC (yk _ _) (by rw[mV];exact aK _);refine dp (k:=.inl (i:Int)) (z:=(.bo,aO (cO rs i) λ_=>0)) rfl rfl rfl rfl rfl (by rw[Dr];exact dP (show(cO rs i).length≤400 by omega) (by decide)) ?_;have:=@Dq (cO rs i) (λ_=>0) i 0;rw[if_neg ni,show upd (λ_=>0) i 0=λ_=>0 from funext λx=>by unfold upd;split<;>rfl]at this;rw[←this];rfl
   |false =>
    rw[hE]at c e2;rw[bw c,e2];rfl)
 subst he;rw[g7,mV]at l1;let F0:FI rs (cO rs rs.length) λ_=>0:=⟨List.Pairwise.filter _ List.nodup_range,(λx hx=>(Ca.mp hx).1),λx hx=>List.length_pos_of_mem hx⟩;obtain⟨e',n',l2,⟨l,f,b,p2,p4,he,hF,hb⟩,hc⟩|⟨_,_,_,_,hf⟩:=JZ (c:=zW) (b:=qt)
  (λmu e=>∃(l:U0) (f:Nat→Nat) (b:Bool) (p2 p4:Us),e=[.al\Row.d∘rs,.bo\.dk (aO l f),p2,.fr\.bl b,p4]∧FI rs l f∧((b=true∧mu=sm (fg rs.length l f) rs.length+1)∨b=false))
  (λ_ _=>False)
  (λmu e bx=>by
   let⟨l,f,b,p2,p4,he,hF,hb⟩:=bx;subst he;cases b with
   |false=>exact .inl rfl
   |true =>
    let⟨_,Uh⟩:=hb.resolve_right λz=>nomatch z;refine .inr ⟨rfl,.inl ?_⟩;let⟨l',f',b',q2,q4,q,a1,a2⟩:=B9 g hN (List.range rs.length).reverse l f false p2 p4 hF λn hn=>mO.mp (List.mem_reverse.mp hn);let hit:tI (ag (ah gP (bY cA (ag (jV 0) ai)) (jC (.int 1))) (ag (eY gf (jC (.int 1))) (ag (eY gf (jC (.int 1))) ai))) [.al\Row.d∘rs,.bo\.dk (aO l f),p2,.fr\.bl false,p4]=some (.fr,av (List.range rs.length).reverse):=by
     refine bo (cn (o2 (cb (cn rfl rfl) gb) rfl iK) (cn (u1 rfl rS) (cn (u1 rfl rS) rfl))) (gn ∅ ?_);rw[show((rs.length:Int)-1+1).toNat=rs.length by omega,B5];unfold av;rw[List.map_reverse]
    let hB:qt [.al\Row.d∘rs,.bo\.dk (aO l f),p2,.fr\.bl true,p4]=some (.nx [.al\Row.d∘rs,.bo\.dk (aO l' f'),q2,.fr\.bl b',q4]):=by
     unfold qt;rw[aw (e':=[.al\Row.d∘rs,.bo\.dk (aO l f),p2,.fr\.bl false,p4]) rfl];exact bo hit q
    cases b' with
    |true =>
     refine⟨_,sm (fg rs.length l' f') rs.length+1,.inl hB,⟨l',f',true,q2,q4,rfl,a1,.inl ⟨rfl,rfl⟩⟩,?_⟩;rcases a2 with⟨z,_⟩|⟨_,z⟩
     ·cases z
     ·omega
    |false =>
     exact⟨_,0,.inl hB,⟨l',f',false,q2,q4,rfl,a1,.inr rfl⟩,by omega⟩)
  (n:=sm (fg rs.length (cO rs rs.length) λ_=>0) rs.length+1) (e:=[.al\Row.d∘rs,.bo\.dk (aO (cO rs rs.length) λ_=>0),z2,.fr\.bl true,none])
  ⟨_,_,true,z2,none,rfl,F0,.inl ⟨rfl,rfl⟩⟩
 ·subst he;let hz:b=false:=by cases b;rfl;cases hc
  subst hz;refine⟨l,f,?_⟩
  ·unfold qG fn AH;simp only[bW,aR,aZ];rw[aw (e':=[.al\Row.d∘rs,.bo\.dk (aO [] λ_=>0),none,none,none]) rfl];rw[aw (bo (r1 (cb (cn rfl rfl) gb) ∅) l1)];rw[aw (e':=[.al\Row.d∘rs,.bo\.dk (aO (cO rs rs.length) λ_=>0),z2,.fr\.bl true,none]) rfl];rw[aw l2];rfl
 ·exact hf.elim
theorem Good.set{rs:List Row}{j:Nat}{r:Row}(h:Good rs)(hv:RV r)(hj:∀m∈aY.di j r,0≤m∧m<rs.length):Good (rs.set j r):=by
 let at_:∀(n:Nat) x,(rs.set j r)[n]?=some x→(n=j∧x=r)∨rs[n]?=some x:=λn x hx=>by
  rw[uh]at hx;split at hx
  ·rename_i e;subst e;split at hx
   ·cases hx;exact .inl ⟨rfl,rfl⟩
   ·cases hx
  ·exact .inr hx
 refine⟨by rw[gS];exact h.pos,λn x hx m hm=>?_,λn x hx=>?_⟩
 ·rw[gS];rcases at_ n x hx with⟨rfl,rfl⟩|z
  ·exact hj m hm
  ·exact h.di n x z m hm
 ·rcases at_ n x hx with⟨_,rfl⟩|z
  ·exact hv
  ·exact h.rv n x z
def qV{e:Ev}{k j:Nat}{mo m':M}{rs:List Row}{r:Row}{f g:Uq}(ho:own mo=true)(he:e[k]?=some (some (mo,Row.d∘rs)))(hf:f e=.fr\r.d)(hg:g e=some (m',↥j))(hj:j<rs.length) :
  g8 k g f e=some (.nx (e.set k (some (mo,.lst ((rs.set j r).map Row.d))))):=by
 let S3:cM (rs.map Row.d).length (j:Int)=some j:=by
  unfold cM;rw[ln,if_pos ∅,if_pos ∅];simp
 exact sx hf hg rfl rfl (show eJ k e=some (mo,rs.map Row.d) by unfold eJ;rw[he];exact if_pos ho) S3 (by rw[List.map_set])
theorem Cb{g:M×D→Ev→Option Ev}{b:Ul}{m:M}(Rt:M→D→Prop):∀{ds:Ut}{e:Ev} (Iv:Nat→Ev→Prop),Iv 0 e →
  (∀(k:Nat) d e,ds[k]?=some d→Iv k e→∃e1,g (m,d) e=some e1∧((∃e2,b e1=some (.nx e2)∧Iv (k+1) e2)∨∃e2 m' d',b e1=some (.rt e2 m' d')∧Rt m' d')) →
  (∃e',forL g b m ds e=some (.nx e')∧Iv ds.length e')∨∃e' m' d',forL g b m ds e=some (.rt e' m' d')∧Rt m' d'
 |[],e,Iv,h0,_=>.inl ⟨e,rfl,h0⟩
 |d::ds,e,Iv,h0,hs=>by
  obtain⟨e1,h1,⟨e2,h2,h3⟩|⟨e2,m',d',h2,h3⟩⟩:=hs 0 d e rfl h0
  ·have:=Cb Rt (ds:=ds) (e:=e2) (λk e=>Iv (k+1) e) h3 λk x e hx=>hs (k+1) x e (by simpa using hx);simp only[forL,h1,h2,oq];exact this
  ·exact .inr ⟨e2,m',d',by simp only[forL,h1,h2,oq],h3⟩
abbrev cT(N:Nat)(ks:U0):U0:=(List.range N).filter λn=>!decide (n∈ks)
def Cd(N:Nat)(ks:U0):(cT N ks).length≤N:=by
 have:=yk (λn=>!decide (n∈ks)) (List.range N);rw[mV]at this;exact this
def Ce{N:Nat}{ks:U0}{n:Nat}:n∈cT N ks↔n<N∧n∉ks:=by
 unfold cT;rw[oI,mO];simp
def Ox{l:U0}(h:l≠[]):∃x∈l,L2.aT (av l) (-1)=some (↥x):=by
 let hp:0<l.length:=List.length_pos_iff.mpr h;refine⟨l[l.length-1]'∅,yh _,?_⟩;unfold L2.aT L2.cM;rw[if_neg (by decide),g7,if_pos ∅,oq,show(-1+(l.length:Int)).toNat=l.length-1 by omega,av,dN,fI ∅];rfl
def Du(t:Int):og [(M.fr,D.str "say"),(.fr,.int t)]=some (.fr,Row.d (.sy (.inl t))):=rfl
def Oy{rs:List Row}(g:Good rs)(hN:rs.length≤200)(t:Int)(ht:0≤t∧t<18446744073709551616)(o3 o4 o5 o6:Us) :
  (∃fY dZ lH zz zA,nz [.bi\Row.d∘rs,.fr\.int ((rs.length:Int)-1),.fr\.int t,o3,o4,o5,o6]=some (.nx [.bi\Row.d∘fY,.fr\.int ((rs.length:Int)-1),.fr\.int t,dZ,lH,zz,zA])∧Good fY∧fY.length=rs.length) ∨
  ∃e',nz [.bi\Row.d∘rs,.fr\.int ((rs.length:Int)-1),.fr\.int t,o3,o4,o5,o6]=some (.rt e' .bi (Row.d∘rs)):=by
 let hp:=g.pos;let⟨k1,e1,z1,_⟩:=IA g ∅;let⟨l,f,e2⟩:=Ow g ∅;let Ui:=Cd rs.length k1;let Uj:=Cd rs.length l;let m1:dG (jB (cX true (jV 0) (jV 1))) (jV 0) .fr [.bo\.dk (bE k1)] (av (List.range rs.length))=some ((av (cT rs.length k1)).map λx=>(M.fr,x)):=vt _ λ_ _=>⟨bl (GK rfl rfl) rfl,rfl⟩;let m2:dG (jB (cX true (jV 0) (jV 1))) (jV 0) .fr [.bo\.dk (aO l f)] (av (List.range rs.length))=some ((av (cT rs.length l)).map λx=>(M.fr,x)):=vt _ λ_ _=>⟨bl (zx rfl rfl) rfl,rfl⟩;unfold nz;rw[aw (e':=[.bi\Row.d∘rs,.fr\.int ((rs.length:Int)-1),.fr\.int t,.bo\.dk (bE k1),o4,o5,o6]) (by exact se (ca (cn rfl rfl) e1) rfl rfl)];rw[aw (e':=[.bi\Row.d∘rs,.fr\.int ((rs.length:Int)-1),.fr\.int t,.bo\.dk (bE k1),.bo\.dk (aO l f),o5,o6]) (by exact se (ca (cn rfl rfl) e2) rfl rfl)];rw[aw (e':=[.bi\Row.d∘rs,.fr\.int ((rs.length:Int)-1),.fr\.int t,.bo\.dk (bE k1),.bo\.dk (aO l f),.bo\.lst (av (cT rs.length k1)),o6]) (by exact se (co (r1 (cb (cn rfl rfl) gb) ∅) m1 (vJ (by rw[g7];omega))) rfl rfl)];rw[aw (e':=[.bi\Row.d∘rs,.fr\.int ((rs.length:Int)-1),.fr\.int t,.bo\.dk (bE k1),.bo\.dk (aO l f),.bo\.lst (av (cT rs.length k1)),.bo\.lst (av (cT rs.length l))]) (by exact se (co (r1 (cb (cn rfl rfl) gb) ∅) m2 (vJ (by rw[g7];omega))) rfl rfl)];let c5:(jB (ah dA (jV 5) (a9 ai))) [.bi\Row.d∘rs,.fr\.int ((rs.length:Int)-1),.fr\.int t,.bo\.dk (bE k1),.bo\.dk (aO l f),.bo\.lst (av (cT rs.length k1)),.bo\.lst (av (cT rs.length l))]=some (!(cT rs.length k1).isEmpty):=bl (o2 rfl rfl (v7 _)) rfl;let c6:(jB (ah dA (jV 6) (a9 ai))) [.bi\Row.d∘rs,.fr\.int ((rs.length:Int)-1),.fr\.int t,.bo\.dk (bE k1),.bo\.dk (aO l f),.bo\.lst (av (cT rs.length k1)),.bo\.lst (av (cT rs.length l))]=some (!(cT rs.length l).isEmpty):=bl (o2 rfl rfl (v7 _)) rfl;cases zB:cT rs.length k1 with
 |cons l0 lr =>
  rw[zB]at c5 c6;let⟨q1,q2⟩:=Ce.mp (show l0∈cT rs.length k1 by rw[zB];exact bC);let h0:l0≠0:=λz=>q2 (z▸z1);rw[bO (by rw[c5];rfl)];refine .inl ⟨rs.set (l0-1) (.sy (.inl t)),_,_,_,_,qV (j:=l0-1) (r:=.sy (.inl t)) (mo:=.bi) (m':=.fr) rfl rfl ?_ ?_ ∅,g.set ht λm hm=>?_,by simp⟩
  ·exact tu (cn rfl (cn rfl rfl)) (Du t)
  ·rw[show((l0-1:Nat):Int)=(l0:Int)-1 by omega];exact o2 (o2 rfl rfl (bL PQ)) rfl iK
  ·have:m=((l0-1:Nat):Int)+1:=by simpa[aY.di]using hm
   omega
 |nil =>
  rw[zB]at c5 c6;rw[bw (by rw[c5];rfl)];cases zC:cT rs.length l with
  |nil =>
   rw[zC]at c6
   right
   rw[bw (p6 c6),bw (by rw[c6];rfl)];exact⟨_,rfl⟩
  |cons d0 dr =>
   rw[zC]at c6
   left
   let⟨x,hx,ex⟩:=Ox (l:=d0::dr) (List.cons_ne_nil _ _);let⟨q1,_⟩:=Ce.mp (show x∈cT rs.length l by rw[zC];exact hx);let ix:(ah aC (jV 6) (eY gf (jC (.int 1)))) [.bi\Row.d∘rs,.fr\.int ((rs.length:Int)-1),.fr\.int t,.bo\.dk (bE k1),.bo\.dk (aO l f),.bo\.lst (av []),.bo\.lst (av (d0::dr))]=some (.fr,↥x):=o2 rfl (u1 rfl rS) (bL ex);let c7:(fC (jB (ah dA (jV 6) (a9 ai))) (jB (ah bA (ah aC (jV 6) (eY gf (jC (.int 1)))) (jV 1)))) [.bi\Row.d∘rs,.fr\.int ((rs.length:Int)-1),.fr\.int t,.bo\.dk (bE k1),.bo\.dk (aO l f),.bo\.lst (av []),.bo\.lst (av (d0::dr))]=some (decide ((x:Int)=(rs.length:Int)-1)):=bat c6 (bl (o2 ix rfl dH) rfl);by_cases q2:(x:Int)=(rs.length:Int)-1
   ·rw[bO (by rw[c7,bz q2])];refine⟨rs.set (rs.length-1) .en,_,_,_,_,qV (j:=rs.length-1) (r:=.en) (mo:=.bi) (m':=.fr) rfl rfl rfl ?_ ∅,g.set True.intro λm hm=>by simp[aY.di]at hm,by simp⟩;rw[show((rs.length-1:Nat):Int)=(rs.length:Int)-1 by omega];rfl
   ·rw[bw (by rw[c7,b5 q2]),bO (by rw[c6];rfl)];refine⟨rs.set x (.sy (.inl t)),_,_,_,_,qV (j:=x) (r:=.sy (.inl t)) (mo:=.bi) (m':=.fr) rfl rfl ?_ ix ∅,g.set ht λm hm=>?_,by simp⟩
    ·exact tu (cn rfl (cn rfl rfl)) (Du t)
    ·have:m=(x:Int)+1:=by simpa[aY.di]using hm
     omega
def LN{rs:List Row}(hp:0<rs.length)(hN:rs.length≤200)(hT:∀r∈rs,Tg rs.length r)(hV:∀r∈rs,RV r):∃fY:List Row,qi [Row.d∘rs]=some (Row.d∘fY)∧Good fY∧fY.length=rs.length:=by
 let fin:∀{fY:List Row}{e:Ev},rZ (.rt e .bi (Row.d∘fY))=some (Row.d∘fY):=λ{fY e}=>by
  simp only[rZ,own,pO,vG,and_self,if_true]
 unfold qi mH zO;rw[show(jv [0] [Row.d∘rs]++List.replicate (7 - [Row.d∘rs].length) none:Ev)=[.bi\Row.d∘rs,none,none,none,none,none,none] from rfl];rw[aw (e':=[.bi\Row.d∘rs,.fr\.int ((rs.length:Int)-1),none,none,none,none,none]) (by exact se (o2 (cb (cn rfl rfl) gb) rfl iK) rfl rfl)];let su:rs[rs.length-1]?=some (rs[rs.length-1]'∅):=by simp
 generalize rs[rs.length-1]'∅=rz at su;let az:=Dl su;rw[show((rs.length-1:Nat):Int)=(rs.length:Int)-1 by omega]at az;let S:∃r1:List Row,Good r1∧r1.length=rs.length∧aU (jB (ah j0 (ah aC (ah aC (jV 0) (jV 1)) (jC (.int 0))) (jC (.str "go")))) (g8 0 (jV 1) (bG (ag (jC (.str "end")) ai))) bj [.bi\Row.d∘rs,.fr\.int ((rs.length:Int)-1),none,none,none,none,none]=some (.nx [.bi\Row.d∘r1,.fr\.int ((rs.length:Int)-1),none,none,none,none,none]):=by
  let hc:(jB (ah j0 (ah aC (ah aC (jV 0) (jV 1)) (jC (.int 0))) (jC (.str "go")))) [.bi\Row.d∘rs,.fr\.int ((rs.length:Int)-1),none,none,none,none,none]=some (!Row.jN rz):=bl (o2 (o2 (o2 rfl rfl (bL az)) rfl (jm _ _ _)) rfl DU) (by rw[mM]);let GW:∀(n:Nat) r,rs[n]?=some r→n+1<rs.length→∀m∈di n r,0≤m∧m<rs.length:=λn r hr hn m hm=>by
   let⟨t1,t2⟩:=hT r (c9 hr);rcases Oj hm with rfl|rfl|⟨a,rfl⟩
   ·exact⟨by omega,by omega⟩
   ·exact t1 m rfl
   ·exact t2 a m rfl
  cases hg:Row.jN rz with
  |true =>
   refine⟨rs,⟨hp,λn r hr m hm=>?_,λn r hr=>hV r (c9 hr)⟩,rfl,by rw[bw (by rw[hc,hg];rfl)];rfl⟩;by_cases hn:n+1<rs.length
   ·exact GW n r hr hn m hm
   ·let aW:n<rs.length:=(bQ.mp hr).1;have:n=rs.length-1:=by omega
    subst this;rw[su]at hr;cases hr;let⟨t,rfl⟩:=Dm.mp hg;have:m=t:=by simpa[aY.di]using hm
    have:=(hT _ (c9 su)).1 t rfl;omega
  |false =>
   refine⟨rs.set (rs.length-1) .en,⟨by simpa using hp,λn r hr m hm=>?_,λn r hr=>(List.mem_or_eq_of_mem_set (List.mem_of_getElem? hr)).elim (hV r) λz=>by rw[z];exact True.intro⟩,by simp,by
    rw[bO (by rw[hc,hg];rfl)];refine qV (j:=rs.length-1) (r:=.en) (mo:=.bi) (m':=.fr) rfl rfl rfl ?_ ∅;rw[show((rs.length-1:Nat):Int)=(rs.length:Int)-1 by omega];rfl⟩
   rw[gS];rw[uh]at hr;split at hr
   ·split at hr
    ·cases hr;simp[aY.di]at hm
    ·cases hr
   ·rename_i dD;let aW:n<rs.length:=(bQ.mp hr).1;exact GW n r hr ∅ m hm
 let⟨r1,g1,l1,e1⟩:=S;rw[aw e1];let L:=Cb (g:=gN 2) (b:=nz) (m:=.fr) (ds:=bH 0 (2*(rs.length:Int)).toNat) (e:=[.bi\Row.d∘r1,.fr\.int ((rs.length:Int)-1),none,none,none,none,none])
  (λm d=>m=.bi∧∃r2:List Row,d=Row.d∘r2∧Good r2∧r2.length=rs.length)
  (λi e=>∃(r2:List Row) (o2 o3 o4 o5 o6:Us),e=[.bi\Row.d∘r2,.fr\.int ((rs.length:Int)-1),o2,o3,o4,o5,o6]∧Good r2∧r2.length=rs.length)
  ⟨r1,none,none,none,none,none,rfl,g1,l1⟩
  (λi d e hd bx=>by
   let⟨r2,o2,o3,o4,o5,o6,he,g2,l2⟩:=bx;subst he;let⟨hi,rfl⟩:=lU hd;refine⟨_,rfl,?_⟩;rcases Oy g2 ∅ (0+(i:Int)) ∅ o3 o4 o5 o6 with⟨r3,dZ,lH,zz,zA,q,g3,l3⟩|⟨e',q⟩
   ·rw[l2]at q;exact .inl ⟨_,q,r3,_,dZ,lH,zz,zA,rfl,g3,by omega⟩
   ·rw[l2]at q;exact .inr ⟨e',.bi,_,q,rfl,r2,rfl,g2,l2⟩)
 let it:(dw (ag (ah cW (jC (.int 2)) (bY cA (ag (jV 0) ai))) ai)) [.bi\Row.d∘r1,.fr\.int ((rs.length:Int)-1),none,none,none,none,none]=some (.fr,bH 0 (2*(rs.length:Int)).toNat):=ri (o2 rfl (cb (cn rfl rfl) (by rw[←l1];exact gb)) (kC ∅)) ∅;rcases L with⟨e',q,r2,o2,o3,o4,o5,o6,rfl,g2,l2⟩|⟨e',m',d',q,rfl,r2,rfl,g2,l2⟩
 ·refine⟨r2,?_,g2,l2⟩;rw[aw (e':=[.bi\Row.d∘r2,.fr\.int ((rs.length:Int)-1),o2,o3,o4,o5,o6]) (by exact bo it q)];exact fin (e:=[])
 ·refine⟨r2,?_,g2,l2⟩;rw[cU (e':=e') (m:=.bi) (d:=Row.d∘r2) (by exact bo it q)];exact fin (e:=[])
theorem Cg{P:Row→Prop}:∀{xs:Ut},(∀x∈xs,∃r:Row,x=r.d∧P r)→∃rs:List Row,xs=rs.map Row.d∧∀r∈rs,P r
 |[],_=>⟨[],rfl,λ_ h=>nomatch h⟩
 |x::xs,h=>by
  let⟨r,rfl,hr⟩:=h x bC;let⟨rs,rfl,hs⟩:=Cg λy hy=>h y (bP _ hy);exact⟨r::rs,rfl,λy hy=>by
   rcases cS.mp hy with rfl|hy
   ·exact hr
   ·exact hs y hy⟩
def LQ(ns:List Int)(fs:U3)(hf:fs.length=5):∃rs:List Row,qe [.int∘ns,.str∘fs,.int 16]=.un\Row.d∘rs∧Good rs∧rs.length≤16:=by
 let⟨c,hc⟩:=kh ns 0 ∅;let⟨ds,hd,hv,ed⟩:=Ls ns fs hf;generalize S4:1+c/2%16=many;let hm:1≤many∧many≤16:=by omega
 let⟨xs,q1,q2,q3⟩:=vz (fc:=ia) (fe:=aJ nF (ag (aJ lM (ag (jV 4) (ag (ah bp (jC (.int 6)) (jV 0)) ai))) (ag (jV 0) (ag (jV 1) (ag (jV 2) (ag (jV 3) ai)))))) (m:=.fr) (fr:=[.fr\.int many,.al\.str∘fs,.bo\a0∘ds,.al\.int∘ns]) (P:=λx=>∃r:Row,x=r.d∧Tg many r∧RV r) (ds:=bH 0 many.toNat) (λd ym=>by
  let⟨i,hi⟩:=List.mem_iff_getElem?.mp ym;let⟨aW,rfl⟩:=lU hi;let⟨x,hx⟩:=Bc ns (6+(0+(i:Int))) ∅;let⟨r,hr,ht⟩:=Od x (0+(i:Int)) many ∅ fs hf ds ∅ hv;exact⟨rfl,_,ca (cn (ca (cn rfl (cn (o2 rfl rfl b7) rfl)) hx) (cn rfl (cn rfl (cn rfl (cn rfl rfl))))) hr,r,rfl,ht⟩)
 let⟨rs,rfl,hT⟩:=Cg q3;rw[ln,nP]at q2;let⟨fY,e,g,l⟩:=LN (rs:=rs) ∅ ∅ (λr hr=>by have:=(hT r hr).1;rw[show many=(rs.length:Int) by omega]at this;exact this) λr hr=>(hT r hr).2;refine⟨fY,?_,g,by omega⟩;unfold qe fn zM;simp only[bW,aR,aZ];rw[aw (e':=[.al\.int∘ns,.al\.str∘fs,.al\.int 16,.fr\.int many,none]) (by exact se (x:=(.fr,.int many)) (o2 rfl (o2 (o2 (ca (cn rfl (cn rfl rfl)) hc) rfl (div_ii (by decide))) rfl (bq (by decide))) (by rw[←S4];exact b7)) rfl rfl)];rw[aw (e':=[.al\.int∘ns,.al\.str∘fs,.al\.int 16,.fr\.int many,.bo\a0∘ds]) (by exact se (ca (cn rfl (cn rfl rfl)) ed) rfl rfl)];refine bo (bo (co (ri rfl ∅) q1 (BM (by rw[ln];omega))) (bo rfl (gn (vG rs) (bo e rfl)))) rfl
def J1(r:Row):∀d∈r.ds,∃k,keyOf d=some k:=by
 let hk:∀a:Ko,∃k,keyOf (kD a)=some k:=λa=>by cases a<;>exact⟨_,rfl⟩
 cases r with
 |rk x s a b =>
  intro d hd;simp only[Row.ds,List.mem_cons,List.not_mem_nil,or_false]at hd;rcases hd with rfl|rfl|rfl|rfl|rfl
  ·exact⟨_,rfl⟩
  ·exact⟨_,rfl⟩
  ·exact⟨_,rfl⟩
  ·exact hk a
  ·exact hk b
 |cp x a =>
  intro d hd;simp only[Row.ds,List.mem_cons,List.not_mem_nil,or_false]at hd;rcases hd with rfl|rfl|rfl
  ·exact⟨_,rfl⟩
  ·exact⟨_,rfl⟩
  ·exact hk a
 |sy a =>
  intro d hd;simp only[Row.ds,List.mem_cons,List.not_mem_nil,or_false]at hd;rcases hd with rfl|rfl
  ·exact⟨_,rfl⟩
  ·exact hk a
 |go t =>
  intro d hd;simp only[Row.ds,List.mem_cons,List.not_mem_nil,or_false]at hd;rcases hd with rfl|rfl
  ·exact⟨_,rfl⟩
  ·exact⟨_,rfl⟩
 |pt a t =>
  intro d hd;simp only[Row.ds,List.mem_cons,List.not_mem_nil,or_false]at hd;rcases hd with rfl|rfl|rfl
  ·exact⟨_,rfl⟩
  ·exact hk a
  ·exact⟨_,rfl⟩
 |en =>
  intro d hd;simp only[Row.ds,List.mem_cons,List.not_mem_nil,or_false]at hd;subst hd;exact⟨_,rfl⟩
def LR(r:Row):r.ds.length≤5:=by cases r<;>simp[Row.ds]
def wa(r:Row):∃ks:List (Key×D),nA [r.d]=.un\.dk ks∧ks.length≤5:=by
 let hl:=LR r;let⟨e',l1,ks,z2,he,hk⟩:=dm (g:=gN 2) (b:=zF) (m:=.al) (ds:=r.ds) (e:=[.al\.tup r.ds,.bo\.dk [],none])
  (λi e=>∃(ks:List (Key×D)) (z2:Us),e=[.al\.tup r.ds,.bo\.dk ks,z2]∧ks.length≤i) ⟨[],none,rfl,aK _⟩
  (λi d e hd bx=>by
   let⟨ks,z2,he,hk⟩:=bx;subst he;let hi:i<r.ds.length:=(bQ.mp hd).1;let⟨k,ek⟩:=J1 r d (c9 hd);refine⟨_,_,rfl,dp (x:=(.fr,.bl true)) (y:=(.al,d)) (k:=k) (z:=(.bo,ks)) rfl rfl ek rfl rfl (dP (show ks.length≤5 by omega) (by decide)) rfl,putD ks k (.bl true),_,rfl,?_⟩;have:=Bg ks k (.bl true);omega)
 subst he;refine⟨ks,?_,by omega⟩;show nA [.tup r.ds]=_;unfold nA fn zJ;simp only[bW,aR,aZ];rw[aw (e':=[.al\.tup r.ds,.bo\.dk [],none]) rfl];rw[aw (fz (e':=[.al\.tup r.ds,.bo\.dk [],none]) rfl (bo (show uO (jV 0) _=some (.al,r.ds)from rfl) l1))];rfl
theorem Ci:∀(es ks:List (Key×D)),(kZ ks es).length≤ks.length+es.length
 |[],ks=>aK _
 |p::es,ks=>by
  let h1:=Ci es (putD ks p.1 p.2);let h2:=Bg ks p.1 p.2;show(kZ (putD ks p.1 p.2) es).length≤_;rw[gq];omega
def J2(rs:List Row)(hl:rs.length≤300):∃ks:List (Key×D),qA [Row.d∘rs]=some (.un,.dk ks):=by
 let⟨e',l1,ks,z2,he,hk⟩:=dm (g:=gN 2) (b:=zQ) (m:=.al) (ds:=rs.map Row.d) (e:=[.al\Row.d∘rs,.bo\.dk [],none])
  (λi e=>∃(ks:List (Key×D)) (z2:Us),e=[.al\Row.d∘rs,.bo\.dk ks,z2]∧ks.length≤5*i) ⟨[],none,rfl,aK _⟩
  (λi d e hd bx=>by
   let⟨ks,z2,he,hk⟩:=bx;subst he;let hi:i<rs.length:=by have:=(bQ.mp hd).1;simpa using this
   let⟨r,_,rfl⟩:=bV.mp (c9 hd);let⟨es,ee,el⟩:=wa r;let hm:=Ci es ks;refine⟨_,[.al\Row.d∘rs,.bo\.dk (kZ ks es),.al\r.d],rfl,?_,_,_,rfl,by omega⟩;exact bo (ca (cn rfl rfl) ee) (bo rfl (bo (a:=(.bo,ks)) rfl (gn (cC (show ks.length+es.length≤1505 by omega) (by decide)) rfl)))
  )
 subst he;refine⟨ks,?_⟩;unfold qA fn Aj;simp only[bW,aR,aZ];rw[aw (e':=[.al\Row.d∘rs,.bo\.dk [],none]) rfl];rw[aw (fz (e':=[.al\Row.d∘rs,.bo\.dk [],none]) rfl (bo (show cN (jV 0) _=some (.al,rs.map Row.d)from rfl) l1))];rfl
def tO(rs:List Row)(q:De):D:=g4 [] (iF rs q) λ_ => "own"
def Bi{rs:List Row}(hl:rs.length≤300){k:Nat}{q:De}(hq:(kn rs)[k]?=some q):lP [Row.d∘rs,↥k]=some (.fr,tO rs q):=by
 let e1:=Ot hl hq;let hR:=B8 rs q;unfold lP fn B3;simp only[bW,aR,aZ];exact bo (re (tu (cn rfl (cn (cb (cn (co (show cN _ _=some (.fr,av (iF rs q))from bo (ca (cn rfl (cn rfl rfl)) e1) rfl) (An (α:=Nat) (m':=.fr) (g:=λn=>↥n) (f:=λn=>.tup [↥n,.str "own"]) (iF rs q) λn _=>tu (cn rfl (cn rfl rfl)) rfl) (vJ (by rw[ln];omega))) rfl) rfl) rfl)) rfl)) rfl
def Bj(kp:List (Int×Int))(R:U0)(f:Nat→Str):J.plain (g4 kp R f)=true:=by
 let h:∀d∈zv R f,J.plain d=true:=λd hd=>by let⟨n,_,rfl⟩:=bV.mp hd;simp[J.plain,J.cV]
 unfold g4;simp only[J.plain,J.cV,kf (Iw kp),kf h];rfl
def J3(kp:List (Int×Int))(R:U0)(f:Nat→Str):(toPy (g4 kp R f)).depth≤60:=by
 let h1:=qJ (Iy kp);let h2:PyData.depthAll (cF (zv R f))≤10:=qJ λd hd=>by let⟨n,_,rfl⟩:=bV.mp hd;simp[toPy,cF,PyData.depth,PyData.depthAll]
 unfold g4;simp only[toPy,cF,PyData.depth,PyData.depthAll];omega
def PX{kp:List (Int×Int)}{R:U0}{f:Nat→Str}:gi (g4 kp R f) (g4 kp R f)=true:=by
 have:=J3 kp R f;unfold gi;rw[Bj,show kE (g4 kp R f) (g4 kp R f)=true from rfl,bz ∅];rfl
def PY{m n:M}{kp:List (Int×Int)}{R:U0}{f:Nat→Str}:gj (m,g4 kp R f) (n,g4 kp R f)=some (.fr,.bl true):=gn PX (by rw[qU _ (Bj kp R f)])
def GX(rs:List Row)(ps:Ut):Prop:=ps.length=(kn rs).length∧∀(k:Nat) d,ps[k]?=some d→d=.non∨∃q,(kn rs)[k]?=some q∧d=tO rs q
def qW{ps:Ut}{i:Nat}{d:D}(h:(bX ps)[i]?=some d):∃x,ps[i]?=some x∧d=.tup [.int i,x]:=by
 unfold bX at h;rw[List.getElem?_mapIdx]at h;cases e:ps[i]? with
 |none=>rw[e]at h;cases h
 |some z=>rw[e]at h;cases h;exact⟨z,rfl,rfl⟩
def J4{rs:List Row}(hl:rs.length≤300){ps:Ut}(hp:GX rs ps):qB [Row.d∘rs,.lst ps]=some (.un,.lst (List.replicate ps.length .non)):=by
 let⟨ks,ek⟩:=J2 rs hl;let zt:=Ec rs;let fN:=hp.1;let⟨e',l1,z5,z6,he⟩:=dm (g:=gT 2 (b6 (gN 5) (b6 (gN 6) fw))) (b:=vq) (m:=.al) (ds:=bX ps) (e:=[.al\Row.d∘rs,.al\.lst ps,.bo\.dk ks,.fr\.int 0,.bo\.lst [],none,none])
  (λi e=>∃(z5 z6:Us),e=[.al\Row.d∘rs,.al\.lst ps,.bo\.dk ks,.fr\.int 0,.bo\.lst (List.replicate i .non),z5,z6]) ⟨none,none,rfl⟩
  (λi d e hd bx=>by
   let⟨z5,z6,he⟩:=bx;subst he;let⟨x,hx,rfl⟩:=qW hd;let hi:i<ps.length:=(bQ.mp hx).1;refine⟨[.al\Row.d∘rs,.al\.lst ps,.bo\.dk ks,.fr\.int 0,.bo\.lst (List.replicate i .non),.al\↥i,.al\x],[.al\Row.d∘rs,.al\.lst ps,.bo\.dk ks,.fr\.int 0,.bo\.lst (List.replicate (i+1) .non),.al\↥i,.al\x],rfl,?_,_,_,rfl⟩;let c:gx (jB (ah mD (jV 6) (jC .non))) (jB (ah gj (jV 6) (aJ lP (ag (jV 0) (ag (jV 5) ai))))) [.al\Row.d∘rs,.al\.lst ps,.bo\.dk ks,.fr\.int 0,.bo\.lst (List.replicate i .non),.al\↥i,.al\x]=some true:=by
    rcases hp.2 i x hx with rfl|⟨q,hq,rfl⟩
    ·exact bot rfl
    ·exact nr rfl (bl (o2 rfl (ca (cn rfl (cn rfl rfl)) (Bi hl hq)) PY) rfl)
   unfold vq;rw[bO c];exact ap (x:=(.fr,.non)) (y:=(.bo,List.replicate i .non)) rfl rfl rfl (by rw[tY];exact dP (show i≤300 by omega) (by decide)) (by rw[List.replicate_succ'];rfl))
 subst he;rw[show(bX ps).length=ps.length by unfold bX;simp]at l1;unfold qB fn Ak;simp only[bW,aR,aZ];rw[aw (e':=[.al\Row.d∘rs,.al\.lst ps,.bo\.dk ks,none,none,none,none]) (by exact se (ca (cn rfl rfl) ek) rfl rfl)];rw[aw (e':=[.al\Row.d∘rs,.al\.lst ps,.bo\.dk ks,.fr\.int 0,none,none,none]) rfl];rw[aw (e':=[.al\Row.d∘rs,.al\.lst ps,.bo\.dk ks,.fr\.int 0,.bo\.lst [],none,none]) rfl];rw[aw (fz (e':=[.al\Row.d∘rs,.al\.lst ps,.bo\.dk ks,.fr\.int 0,.bo\.lst [],none,none]) rfl (bo (show fh (ag (jV 1) ai) _=some (.al,bX ps)from rfl) l1))];rfl
def Dv{n i:Nat}{d:D}(h:(List.replicate n D.non)[i]?=some d):d=.non:=by
 have:=c9 h;exact(List.mem_replicate.mp this).2
def LV(ps:Ut)(n:Nat):qI [.lst ps,.lst (List.replicate n .non)]=some (.un,.dk []):=by
 let⟨e',l1,z3,z4,he⟩:=dm (g:=gT 2 (b6 (gN 3) (b6 (gN 4) fw))) (b:=zY) (m:=.al) (ds:=bX (List.replicate n .non)) (e:=[.al\.lst ps,.al\.lst (List.replicate n .non),.bo\.dk [],none,none,none,none])
  (λi e=>∃(z3 z4:Us),e=[.al\.lst ps,.al\.lst (List.replicate n .non),.bo\.dk [],z3,z4,none,none]) ⟨none,none,rfl⟩
  (λi d e hd bx=>by
   let⟨z3,z4,he⟩:=bx;subst he;let⟨x,hx,rfl⟩:=qW hd;cases Dv hx;exact⟨_,[.al\.lst ps,.al\.lst (List.replicate n .non),.bo\.dk [],.al\↥i,.al\.non,none,none],rfl,rfl,_,_,rfl⟩)
 subst he;unfold qI fn AK;simp only[bW,aR,aZ];rw[aw (e':=[.al\.lst ps,.al\.lst (List.replicate n .non),.bo\.dk [],none,none,none,none]) rfl];rw[aw (fz (e':=[.al\.lst ps,.al\.lst (List.replicate n .non),.bo\.dk [],none,none,none,none]) rfl (bo (show fh (ag (jV 1) ai) _=some (.al,bX (List.replicate n .non))from rfl) l1))];rfl
def LW{rs:List Row}(hl:rs.length≤300)(ps:D):qw [Row.d∘rs,ps,.lst (List.replicate (kn rs).length .non)]=some (.un,.dt []):=by
 let ek:=v5 (rs:=rs) ∅;let⟨e',l1,z4,z5,he⟩:=dm (g:=gT 2 (b6 (gN 4) (b6 (gN 5) fw))) (b:=qg) (m:=.fr) (ds:=bX ((kn rs).map a0)) (e:=[.al\Row.d∘rs,.al\ps,.al\.lst (List.replicate (kn rs).length .non),.bo\.dt [],none,none,none])
  (λi e=>∃(z4 z5:Us),e=[.al\Row.d∘rs,.al\ps,.al\.lst (List.replicate (kn rs).length .non),.bo\.dt [],z4,z5,none]) ⟨none,none,rfl⟩
  (λi d e hd bx=>by
   let⟨z4,z5,he⟩:=bx;subst he;let⟨x,hx,rfl⟩:=qW hd;let hi:i<(kn rs).length:=by have:=(bQ.mp hx).1;simpa using this
   let at_:L2.aT (List.replicate (kn rs).length D.non) (i:Int)=some .non:=by
    rw[J.kg (by rw[tY];exact hi),List.getElem_replicate]
   refine⟨_,[.al\Row.d∘rs,.al\ps,.al\.lst (List.replicate (kn rs).length .non),.bo\.dt [],.fr\↥i,.fr\x,none],rfl,?_,_,_,rfl⟩;show qg [.al\Row.d∘rs,.al\ps,.al\.lst (List.replicate (kn rs).length .non),.bo\.dt [],.fr\↥i,.fr\x,none]=_;unfold qg;rw[bw (bl (o2 (o2 rfl rfl (bL at_)) rfl rfl) rfl)];rfl)
 subst he;unfold qw fn z0;simp only[bW,aR,aZ];rw[aw (e':=[.al\Row.d∘rs,.al\ps,.al\.lst (List.replicate (kn rs).length .non),.bo\.dt [],none,none,none]) rfl];let hit:fh (ag (aJ kc (ag (jV 0) ai)) ai) [.al\Row.d∘rs,.al\ps,.al\.lst (List.replicate (kn rs).length .non),.bo\.dt [],none,none,none]=some (.fr,bX ((kn rs).map a0)):=bo (cn (ca (cn rfl rfl) ek) rfl) rfl;rw[aw (bo hit l1)];rfl
def LX(r:Row):qH [r.d,.tup [.str "own",.non]]=some (.un,.lst [r.d]):=by
 let hi:cQ [(M.al,r.d)]=some (.un,.lst [r.d]):=v3 (xs:=[r.d]) (by show 1≤5000;decide) λx hx=>by rw[List.mem_singleton.mp hx];exact Row.bD r
 unfold qH fn AJ;simp only[bW,aR,aZ];rw[aw (e':=[.al\r.d,.al\.tup [.str "own",.non],.al\.str "own",none,none]) rfl];rw[aw (e':=[.al\r.d,.al\.tup [.str "own",.non],.al\.str "own",.al\.non,none]) rfl];exact bo (cU (by rw[bO (bl (o2 rfl rfl hX) (bz rfl))];exact re (li (cn rfl rfl) hi))) rfl
def EI(r:Row):bp (.un,.lst [r.d]) (.un,.lst [])=.un\.lst [r.d]∧bp (.un,.lst []) (.un,.lst [r.d])=some (.un,.lst [r.d]):=by
 let h1:([r.d]:Ut).length+([]:Ut).length≤sizeLine:=by show 1≤sizeLine;decide
 let h2:([]:Ut).length+([r.d]:Ut).length≤sizeLine:=by show 1≤sizeLine;decide
 constructor
 ·show fU fD kz (.un,.lst [r.d]) (.un,.lst [])=_;unfold fU;rw[show fD (.un,.lst [r.d]) (.un,.lst [])=some (.un,.lst [r.d]) by simp only[fD];rw[if_neg (by decide),if_pos h1];rfl]
 ·show fU fD kz (.un,.lst []) (.un,.lst [r.d])=_;unfold fU;rw[show fD (.un,.lst []) (.un,.lst [r.d])=some (.un,.lst [r.d]) by simp only[fD];rw[if_neg (by decide),if_pos h2];rfl]
def J5(n:Int)(r:Row):qz [.int n,r.d,.dt [],.dk []]=some (.un,.lst [r.d]):=by
 let hi:cQ [(M.al,r.d)]=some (.un,.lst [r.d]):=v3 (xs:=[r.d]) (by show 1≤5000;decide) λx hx=>by rw[List.mem_singleton.mp hx];exact Row.bD r
 let T:jB (ah bA (ah aC (jV 1) (jC (.int 0))) (jC (.str "go"))) [.al\.int n,.al\r.d,.al\.dt [],.al\.dk []]=some (Row.jN r):=(bl (o2 (o2 rfl rfl (jm _ _ r)) rfl hX) rfl).trans (bT some (mM r));unfold qz fn Ai;simp only[bW,aR,aZ];cases hg:Row.jN r with
 |true =>
  rw[hg]at T;let⟨t,rfl⟩:=Dm.mp hg;exact bo (cU (by rw[bO T];exact re (o2 (show jD _ _ _ _=some (.un,.lst [])from rfl) (li (cn rfl rfl) hi) (EI _).2))) rfl
 |false =>
  rw[hg]at T;rw[aw (by rw[bw T];rfl)];exact bo (re (o2 (ca (cn rfl (cn (show rC _ _ _ _=some (.fr,.tup [.str "own",.non])from rfl) rfl)) (LX r)) (show jD _ _ _ _=some (.un,.lst [])from rfl) (EI r).1)) rfl
abbrev aM(r:Row):D:=.lst [r.d]
def IC{rs:List Row}(hl:rs.length≤300):qu [Row.d∘rs,.dt [],.dk []]=some (.un,aM∘rs):=by
 let⟨e',l1,z5,z6,he⟩:=dm (g:=gT 2 (b6 (gN 5) (b6 (gN 6) fw))) (b:=vo) (m:=.al) (ds:=bX (rs.map Row.d)) (e:=[.al\Row.d∘rs,.al\.dt [],.al\.dk [],.bo\.lst [],.bo\.lst [],none,none])
  (λi e=>∃(z5 z6:Us),e=[.al\Row.d∘rs,.al\.dt [],.al\.dk [],.bo\.lst ((rs.take i).map aM),.bo\.lst [],z5,z6]) ⟨none,none,rfl⟩
  (λi d e hd bx=>by
   let⟨z5,z6,he⟩:=bx;subst he;let⟨r,hr,rfl⟩:=Lv hd;let hi:i<rs.length:=(bQ.mp hr).1;refine⟨[.al\Row.d∘rs,.al\.dt [],.al\.dk [],.bo\.lst ((rs.take i).map aM),.bo\.lst [],.al\↥i,.al\r.d],[.al\Row.d∘rs,.al\.dt [],.al\.dk [],.bo\.lst ((rs.take (i+1)).map aM),.bo\.lst [],.al\↥i,.al\r.d],rfl,?_,_,_,rfl⟩;let c:fC (jB (ah bA (ah aC (jV 6) (jC (.int 0))) (jC (.str "part")))) (jB (oE false (bG (ag (jV 5) (ag (ah aC (jV 6) (jC (.int 2))) ai))) (jV 1))) [.al\Row.d∘rs,.al\.dt [],.al\.dk [],.bo\.lst ((rs.take i).map aM),.bo\.lst [],.al\↥i,.al\r.d]=some false:=by
    let T:jB (ah bA (ah aC (jV 6) (jC (.int 0))) (jC (.str "part"))) [.al\Row.d∘rs,.al\.dt [],.al\.dk [],.bo\.lst ((rs.take i).map aM),.bo\.lst [],.al\↥i,.al\r.d]=some (Row.xN r):=(bl (o2 (o2 rfl rfl (jm _ _ r)) rfl hX) rfl).trans (bT some (tN r));cases hp:Row.xN r with
    |false=>rw[hp]at T;exact p6 T
    |true =>
     rw[hp]at T;cases r with
     |pt a t=>exact bat T rfl
     |_=>cases hp
   unfold vo;rw[bw c];exact ap (x:=(.un,.lst [r.d])) (y:=(.bo,(rs.take i).map aM)) (ca (cn rfl (cn rfl (cn rfl (cn rfl rfl)))) (J5 _ r)) rfl rfl (by rw[ln,tX];exact dP (show min i rs.length≤300 by omega) (by decide)) (by rw[um,hr,Option.toList_some,fJ];rfl))
 subst he;rw[show(bX (rs.map Row.d)).length=rs.length by unfold bX;simp,yj]at l1;let hc:bp (.bo,aM∘rs) (.bo,.lst [])=some (.un,aM∘rs):=by
  show fU fD kz (.bo,aM∘rs) (.bo,.lst [])=_;unfold fU;rw[show fD (.bo,aM∘rs) (.bo,.lst [])=some (.un,aM∘rs) by
   simp only[fD];rw[if_neg (by decide),if_pos (by rw[ln];exact cC (show rs.length+0≤300 by omega) (by decide)),mQ];rfl]
 unfold qu fn zX;simp only[bW,aR,aZ];rw[aw (e':=[.al\Row.d∘rs,.al\.dt [],.al\.dk [],.bo\.lst [],none,none,none]) rfl];rw[aw (e':=[.al\Row.d∘rs,.al\.dt [],.al\.dk [],.bo\.lst [],.bo\.lst [],none,none]) rfl];rw[aw (fz (e':=[.al\Row.d∘rs,.al\.dt [],.al\.dk [],.bo\.lst [],.bo\.lst [],none,none]) rfl (bo (show fh (ag (jV 0) ai) _=some (.al,bX (rs.map Row.d))from rfl) l1))];exact bo (re (o2 rfl rfl hc)) rfl
abbrev lI:Row→D
 |.go t=>.int t
 |.pt _ t=>.int t
 |_=>.non
def IE(r:Row):qv [r.d]=some (.fr,lI r):=by
 let T:∀w:Str,jB (ah bA (ah aC (jV 0) (jC (.int 0))) (jC (.str w))) [.al\r.d]=some (decide (r.word=w)):=λw=>bl (o2 (o2 rfl rfl (jm _ _ r)) rfl hX) rfl;let G:=(T "go").trans (bT some (mM r));let P:=(T "part").trans (bT some (tN r));unfold qv fn zZ;simp only[bW,aR,aZ];cases r with
 |go t=>exact bo (cU (e':=[.al\Row.d (.go t)]) (m:=.al) (d:=.int t) (by rw[bO G];rfl)) rfl
 |pt a t =>
  rw[aw (by rw[bw G];rfl)];exact bo (cU (e':=[.al\Row.d (.pt a t)]) (m:=.al) (d:=.int t) (by rw[bO P];rfl)) rfl
 |_=>rw[aw (by rw[bw G];rfl),aw (by rw[bw P];rfl)];rfl
def Cj(r:Row)(t:Int)(h:r=.go t∨∃a,r=.pt a t):qf [r.d,.int t]=some (.fr,r.d):=by
 let G:jB (ah bA (ah aC (jV 0) (jC (.int 0))) (jC (.str "go"))) [.al\r.d,.al\.int t]=some (Row.jN r):=(bl (o2 (o2 rfl rfl (jm _ _ r)) rfl hX) rfl).trans (bT some (mM r));unfold qf fn zN;simp only[bW,aR,aZ];rcases h with rfl|⟨a,rfl⟩
 ·exact bo (cU (e':=[.al\Row.d (.go t),.al\.int t]) (m:=.fr) (d:=Row.d (.go t)) (by rw[bO G];rfl)) rfl
 ·rw[aw (by rw[bw G];rfl)];refine bo (re (m:=.fr) (d:=Row.d (.pt a t)) (tu (cn rfl (cn (show _=some (.al,kD a)from rfl) (cn rfl rfl))) ?_)) rfl;cases a<;>rfl
def IG{rs:List Row}(g:Good rs)(hl:rs.length≤300):qT [.lst [],aM∘rs]=some (.un,Row.d∘rs):=by
 let⟨e1,l1,z4,he⟩:=dm (g:=gN 4) (b:=qC) (m:=.al) (ds:=rs.map aM) (e:=[.al\.lst [],.al\aM∘rs,.bo\.lst (av []),.fr\.int 0,none,none,none,none])
  (λi e=>∃z4,e=[.al\.lst [],.al\aM∘rs,.bo\.lst (av (List.range i)),.fr\↥i,z4,none,none,none]) ⟨none,rfl⟩
  (λi d e hd bx=>by
   let⟨z4,he⟩:=bx;subst he;let hi:i<rs.length:=by have:=(bQ.mp hd).1;simpa using this
   let⟨r,_,rfl⟩:=bV.mp (c9 hd);refine⟨_,[.al\.lst [],.al\aM∘rs,.bo\.lst (av (List.range (i+1))),.fr\.int ((i:Int)+1),.al\aM r,none,none,none],rfl,?_,_,by rw[Int.natCast_succ]⟩;show qC [.al\.lst [],.al\aM∘rs,.bo\.lst (av (List.range i)),.fr\↥i,.al\aM r,none,none,none]=_;unfold qC;rw[aw (e':=[.al\.lst [],.al\aM∘rs,.bo\.lst (av (List.range (i+1))),.fr\↥i,.al\aM r,none,none,none]) (by exact ap rfl rfl rfl (by rw[g7,mV];exact dP (show i≤300 by omega) (by decide)) (by rw[List.range_succ,←vI];rfl))];exact se (o2 rfl (cb (cn rfl rfl) (show cA [(M.al,aM r)]=some (.fr,.int 1)from rfl)) b7) rfl rfl)
 subst he;rw[ln]at l1;let⟨e2,l2,y4,y6,y7,he⟩:=dm (g:=gN 4) (b:=vw) (m:=.al) (ds:=rs.map aM) (e:=[.al\.lst [],.al\aM∘rs,.bo\.lst (av (List.range rs.length)),.fr\.int (rs.length:Int),z4,.bo\.lst [],none,none])
  (λi e=>∃y4 y6 y7,e=[.al\.lst [],.al\aM∘rs,.bo\.lst (av (List.range rs.length)),.fr\.int (rs.length:Int),y4,.bo\.lst ((rs.take i).map Row.d),y6,y7]) ⟨_,none,none,rfl⟩
  (λi d e hd bx=>by
   let⟨y4,y6,y7,he⟩:=bx;subst he;rw[dN]at hd;let⟨r,hr,rfl⟩:=EJ.mp hd;let hi:i<rs.length:=(bQ.mp hr).1;refine⟨[.al\.lst [],.al\aM∘rs,.bo\.lst (av (List.range rs.length)),.fr\.int (rs.length:Int),.al\aM r,.bo\.lst ((rs.take i).map Row.d),y6,y7],[.al\.lst [],.al\aM∘rs,.bo\.lst (av (List.range rs.length)),.fr\.int (rs.length:Int),.al\aM r,.bo\.lst ((rs.take (i+1)).map Row.d),.al\r.d,.fr\lI r],rfl,?_,_,_,_,rfl⟩;unfold vw;refine fz (e':=[.al\.lst [],.al\aM∘rs,.bo\.lst (av (List.range rs.length)),.fr\.int (rs.length:Int),.al\aM r,.bo\.lst ((rs.take i).map Row.d),y6,y7]) rfl (bo (show cN (jV 4) _=some (.al,[r.d])from rfl) ?_);let ad:∀m,m=M.al∨m=M.fr→∀f,f [.al\.lst [],.al\aM∘rs,.bo\.lst (av (List.range rs.length)),.fr\.int (rs.length:Int),.al\aM r,.bo\.lst ((rs.take i).map Row.d),.al\r.d,.fr\lI r]=some (m,r.d)→dM 5 f [.al\.lst [],.al\aM∘rs,.bo\.lst (av (List.range rs.length)),.fr\.int (rs.length:Int),.al\aM r,.bo\.lst ((rs.take i).map Row.d),.al\r.d,.fr\lI r]=some (.nx [.al\.lst [],.al\aM∘rs,.bo\.lst (av (List.range rs.length)),.fr\.int (rs.length:Int),.al\aM r,.bo\.lst ((rs.take (i+1)).map Row.d),.al\r.d,.fr\lI r]):=λm hm f hf=>ap (x:=(m,r.d)) (y:=(.bo,(rs.take i).map Row.d)) hf (by rcases hm with rfl|rfl;exact Row.bD r;rfl) rfl (by rw[ln,tX];exact dP (show min i rs.length≤300 by omega) (by decide)) (by rw[um,hr,Option.toList_some,fJ];rfl);let st:qD [.al\.lst [],.al\aM∘rs,.bo\.lst (av (List.range rs.length)),.fr\.int (rs.length:Int),.al\aM r,.bo\.lst ((rs.take i).map Row.d),.al\r.d,y7]=some (.nx [.al\.lst [],.al\aM∘rs,.bo\.lst (av (List.range rs.length)),.fr\.int (rs.length:Int),.al\aM r,.bo\.lst ((rs.take (i+1)).map Row.d),.al\r.d,.fr\lI r]):=by
    unfold qD;rw[aw (e':=[.al\.lst [],.al\aM∘rs,.bo\.lst (av (List.range rs.length)),.fr\.int (rs.length:Int),.al\aM r,.bo\.lst ((rs.take i).map Row.d),.al\r.d,.fr\lI r]) (by exact se (ca (cn rfl rfl) (IE r)) (by cases r<;>rfl) rfl)];let at_:∀t:Int,0≤t∧t<rs.length→L2.aT (av (List.range rs.length)) t=some (.int t):=λt ht=>by
     let⟨n,rfl⟩:=Int.eq_ofNat_of_zero_le ht.1;rw[J.kg (by rw[g7,mV];omega)];unfold av;rw[oU,List.getElem_range]
    cases r with
    |go t=>exact ad .fr (.inr rfl) _ (bo (a:=false) rfl (ca (cn rfl (cn (o2 rfl rfl (bL (at_ t (g.di i _ hr t (List.mem_singleton.mpr rfl))))) rfl)) (Cj _ t (.inl rfl))))
    |pt a t=>exact ad .fr (.inr rfl) _ (bo (a:=false) rfl (ca (cn rfl (cn (o2 rfl rfl (bL (at_ t (g.di i _ hr t (bP _ (List.mem_singleton.mpr rfl)))))) rfl)) (Cj _ t (.inr ⟨a,rfl⟩))))
    |_=>exact ad .al (.inl rfl) _ rfl
   show forL (gN 6) qD .al [r.d] _=_;rw[forL,show gN 6 (M.al,r.d) [.al\.lst [],.al\aM∘rs,.bo\.lst (av (List.range rs.length)),.fr\.int (rs.length:Int),.al\aM r,.bo\.lst ((rs.take i).map Row.d),y6,y7]=some [.al\.lst [],.al\aM∘rs,.bo\.lst (av (List.range rs.length)),.fr\.int (rs.length:Int),.al\aM r,.bo\.lst ((rs.take i).map Row.d),.al\r.d,y7] from rfl,oq,st];rfl)
 subst he;rw[ln,yj]at l2;unfold qT fn A9;simp only[bW,aR,aZ];rw[aw (e':=[.al\.lst [],.al\aM∘rs,.bo\.lst (av []),none,none,none,none,none]) rfl];rw[aw (e':=[.al\.lst [],.al\aM∘rs,.bo\.lst (av []),.fr\.int 0,none,none,none,none]) rfl];rw[aw (fz (e':=[.al\.lst [],.al\aM∘rs,.bo\.lst (av []),.fr\.int 0,none,none,none,none]) rfl (bo (show cN (jV 1) _=some (.al,rs.map aM)from rfl) l1))];rw[aw (e':=[.al\.lst [],.al\aM∘rs,.bo\.lst (av (List.range rs.length)),.fr\.int (rs.length:Int),z4,.bo\.lst [],none,none]) rfl];rw[aw (fz (e':=[.al\.lst [],.al\aM∘rs,.bo\.lst (av (List.range rs.length)),.fr\.int (rs.length:Int),z4,.bo\.lst [],none,none]) rfl (bo (show cN (jV 1) _=some (.al,rs.map aM)from rfl) l2))];rfl
def LY{rs:List Row}(g:Good rs)(hl:rs.length≤300){ps:Ut}(hp:GX rs ps):nX [Row.d∘rs,.lst ps]=some (.un,Row.d∘rs):=by
 let e1:=J4 hl hp;let e2:=LW hl (.lst ps);let e3:=LV ps ps.length;rw[hp.1]at e1 e3;let⟨e',l1,z3,z4,he⟩:=dm (g:=gT 2 (b6 (gN 3) (b6 (gN 4) fw))) (b:=Ba) (m:=.fr) (ds:=bX (List.replicate (kn rs).length .non)) (e:=[.al\Row.d∘rs,.al\.lst ps,.fr\.lst (List.replicate (kn rs).length .non),none,none,none])
  (λi e=>∃(z3 z4:Us),e=[.al\Row.d∘rs,.al\.lst ps,.fr\.lst (List.replicate (kn rs).length .non),z3,z4,none]) ⟨none,none,rfl⟩
  (λi d e hd bx=>by
   let⟨z3,z4,he⟩:=bx;subst he;let⟨x,hx,rfl⟩:=qW hd;cases Dv hx;exact⟨_,[.al\Row.d∘rs,.al\.lst ps,.fr\.lst (List.replicate (kn rs).length .non),.fr\↥i,.fr\.non,none],rfl,rfl,_,_,rfl⟩)
 subst he;unfold nX fn Dj;simp only[bW,aR,aZ];rw[aw (e':=[.al\Row.d∘rs,.al\.lst ps,.bo\.lst (List.replicate (kn rs).length .non),none,none,none]) (by exact se (ca (cn rfl (cn rfl rfl)) e1) rfl rfl)];rw[aw (fz (e':=[.al\Row.d∘rs,.al\.lst ps,.fr\.lst (List.replicate (kn rs).length .non),none,none,none]) rfl (bo (show fh (ag (jV 2) ai) _=some (.fr,bX (List.replicate (kn rs).length .non))from rfl) l1))];rw[aw (e':=[.al\Row.d∘rs,.al\.lst ps,.fr\.lst (List.replicate (kn rs).length .non),z3,z4,.bo\.dt []]) (by exact se (ca (cn rfl (cn rfl (cn rfl rfl))) e2) rfl rfl)];exact bo (re (ca (cn (show jD _ _ _ _=some (.un,.lst [])from rfl) (cn (ca (cn rfl (cn rfl (cn (ca (cn rfl (cn rfl rfl)) e3) rfl))) (IC hl)) rfl)) (IG g hl))) rfl
def J6(ns:List Int)(hn:ns.length≤63):∃m,sr [.int∘ns]=some (m,.bl true):=by
 let⟨c3,h3⟩:=kh ns 3 ∅;let⟨c4,h4⟩:=kh ns 4 ∅;let⟨c5,h5⟩:=kh ns 5 ∅;let⟨fs,hf,ef⟩:=JX c3 c4;let⟨rs,er,g,hl⟩:=LQ ns fs hf;let ek:=v5 (rs:=rs) ∅;let Uk:=Ec rs;let⟨e',l1,ps,z5,he,fN,zD⟩:=dm (g:=gN 5) (b:=B4) (m:=.fr) (ds:=av (List.range (kn rs).length)) (e:=[.al\.int∘ns,.bo\.str∘fs,.bo\Row.d∘rs,.bo\Row.d∘rs,.bo\.lst [],none,none])
  (λi e=>∃(ps:Ut) (z5:Us),e=[.al\.int∘ns,.bo\.str∘fs,.bo\Row.d∘rs,.bo\Row.d∘rs,.bo\.lst ps,z5,none]∧ps.length=i∧∀(k:Nat) d,ps[k]?=some d→d=.non∨∃q,(kn rs)[k]?=some q∧d=tO rs q) ⟨[],none,rfl,rfl,λk d h=>nomatch h⟩
  (λi d e hd bx=>by
   let⟨ps,z5,he,fN,zD⟩:=bx;subst he;let hi:i<(kn rs).length:=by have:=(bQ.mp hd).1;simpa[av]using this
   have:d=↥i:=by unfold av at hd;rw[dN,yf hi]at hd;cases hd;rfl
   subst this;let hq:(kn rs)[i]?=some ((kn rs)[i]'hi):=fI hi;generalize (kn rs)[i]'hi=q at hq;let⟨x,hx,ex⟩:=vZ (f:=λd:D=>d) (l:=[.non,tO rs q]) (k:=c5/((i:Int)+1)%2) (il _ (by decide)) (ip _ (by decide));rw[List.map_id'']at ex
   ·refine⟨_,[.al\.int∘ns,.bo\.str∘fs,.bo\Row.d∘rs,.bo\Row.d∘rs,.bo\.lst (ps++[x]),.fr\↥i,none],rfl,?_,ps++[x],_,rfl,by simp[fN],λk d hk=>?_⟩
    ·exact ap (x:=(.fr,x)) (y:=(.bo,ps)) (o2 (li (cn rfl (cn (ca (cn rfl (cn rfl rfl)) (Bi ∅ hq)) rfl)) rfl) (o2 (o2 (ca (cn rfl (cn rfl rfl)) h5) (o2 rfl rfl b7) (div_ii ∅)) rfl (bq (by decide))) (bL ex)) rfl rfl (by rw[fN];exact dP (show i≤300 by omega) (by decide)) rfl
    ·rcases ui k ps.length with z|z
     ·rw[oK z]at hk;exact zD k d hk
     ·rw[List.getElem?_append_right z]at hk;let S5:k-ps.length=0:=by
       have:=(bQ.mp hk).1;simp at this;omega
      rw[S5]at hk;cases hk;have:k=i:=by omega
      subst this;simp only[List.mem_cons,List.not_mem_nil,or_false]at hx;exact hx.imp id λz=>⟨q,hq,z⟩
   ·exactλ_=>rfl)
 subst he;rw[g7,mV]at fN;let eL:=LY g ∅ (ps:=ps) ⟨fN,zD⟩;let nE:=λ{m n:M}=>Oh (m:=m) (n:=n) (Al rs) (Am rs);let GY:(rs.map Row.d).length<sizeLine:=by rw[ln];exact dP hl (by decide)
 refine⟨.fr,?_⟩;unfold sr fn D9;simp only[bW,aR,aZ];rw[aw (e':=[.al\.int∘ns,.bo\.str∘fs,none,none,none,none,none]) (by exact se (ca (cn (ca (cn rfl (cn rfl rfl)) h3) (cn (ca (cn rfl (cn rfl rfl)) h4) rfl)) ef) rfl rfl)];rw[aw (e':=[.al\.int∘ns,.bo\.str∘fs,.bo\Row.d∘rs,none,none,none,none]) (by exact se (ca (cn rfl (cn rfl (cn rfl rfl))) er) rfl rfl)];rw[aw (e':=[.al\.int∘ns,.bo\.str∘fs,.bo\Row.d∘rs,.bo\Row.d∘rs,none,none,none]) (by exact se (cb (cn rfl rfl) (show ml [(.bo,Row.d∘rs)]=some (.un,Row.d∘rs)from rfl)) rfl rfl)];rw[aw (e':=[.al\.int∘ns,.bo\.str∘fs,.bo\Row.d∘rs,.bo\Row.d∘rs,.bo\.lst [],none,none]) rfl];rw[aw (bo (r1 (cb (cn (ca (cn rfl rfl) ek) rfl) gb) ∅) l1)];rw[aw (e':=[.al\.int∘ns,.bo\.str∘fs,.bo\Row.d∘rs,.bo\Row.d∘rs,.bo\.lst ps,z5,.bo\Row.d∘rs]) (by exact se (ca (cn rfl (cn rfl rfl)) eL) rfl rfl)];rw[aw (by rw[bw (nr (bn (bl (cb (cn rfl (cn rfl rfl)) rfl) rfl) rfl) (nr (bl (o2 rfl rfl nE) rfl) (bl (o2 rfl rfl nE) rfl)))];rfl)];rw[aw (e':=[.al\.int∘ns,.bo\.str∘fs,.bo\Row.d∘rs,.bo\Row.d∘rs,.bo\.lst ps,z5,.bo\.lst (rs.map Row.d++[.tup [.str "end"]])]) (by exact ap (x:=(.fr,.tup [.str "end"])) (y:=(.bo,rs.map Row.d)) rfl rfl rfl GY rfl)];rw[aw (e':=[.al\.int∘ns,.bo\.str∘fs,.bo\.lst (rs.map Row.d++[.tup [.str "say",.int 1]]),.bo\Row.d∘rs,.bo\.lst ps,z5,.bo\.lst (rs.map Row.d++[.tup [.str "end"]])]) (by exact ap (x:=(.fr,.tup [.str "say",.int 1])) (y:=(.bo,rs.map Row.d)) rfl rfl rfl GY rfl)];refine bo (re (m:=.fr) (d:=.bl (true&&true)) (ja (b:=true) (o2 (ca (cn rfl (cn rfl rfl)) eL) rfl (Oi (Al rs) (Am rs))) λ_=>o2 (cb (cn rfl rfl) rT) (o2 (cb (cn rfl rfl) gb) rfl b7) ?_)) rfl;rw[dH,bz (by rw[cK,ln,List.length_singleton];omega)]
end aY
namespace aY
open PySem PySem.Spec L2 My J
def walk {l:PySem.W.OpenLaw}{q:Program}{loose:U3}{XP:(Str→Option Value)→Heap→Prop}{YP:World→Heap→Prop}{d:DefRec}{K:Params→Uw} (hn:l.most=some 63) (pB:d.params.defaults=[]) (hd:d.name = "law")
  (hY:∀(w:World) (h:Heap),YP w h→(K w.params).In h) (F:∀(w:World),C.vd (K w.params) xK∧C.ve (K w.params) bs∧C.vf (K w.params) gs) :
  PySem.W.WalkO q loose XP YP l.row.toRowW d [] (λf vs=>PySem.call f vs) :=
 L2.Kv (n:=63) (k:=7) (x := "_law_script") (CX:=λ_=>iZ) (sp:=λw=>j5 (K w.params) 1 sr) hn (by decide) pB ⟨rfl,by decide,by decide⟩ hY (λw mg fa h X G zp=>C.PL X G (hd▸zp) (F w).2.1 (F w).2.2 (F w).1 ba ok SM λ_ _ _ _ _ _ _ _=>.of_eq rfl) (λ_ _ a ns hl _ hS=>Nh hS (J6 ns hl)) λ_ _ _ _ _ z=>z
end aY
namespace PySem.W.Fast
def tw4948046085477211290:=0
def tw127038179169304623:=0
def tw10789736625269412778:=0
def tw16670281921692228211:=0
def tw689847123177321454:=0
def tw17529275443760668986:=0
def tw5805988822737242509:=0
def tw13674833922759515173:=0
def tw3542925519883632362:=0
def tw14697892314127850347:=0
def tw720174080979173794:=0
def tw11890259252203713386:=0
def tw1846598402625423371:=0
def tw10286610120758782962:=0
def tw16365142221695091860:=0
def tw9824912585826701935:=0
def tw13232227925423452825:=0
def tw6899138881420211225:=0
def tw18343742587391479227:=0
def tw11165015517573477372:=0
def tw10199738599880009392:=0
def tw10796469016077013419:=0
def tw5339689866426978099:=0
def tw14058713164769906845:=0
def tw14134453530665092212:=0
def tw5744831371428086032:=0
def tw5926011725500190189:=0
def tw17313494433390411631:=0
def tw4902583513206244061:=0
def tw6207870266035599055:=0
def tw16906596933247815288:=0
def tw2947813668602185366:=0
def tw18100927452401482777:=0
def tw12044508498145129988:=0
def tw14611938924354427046:=0
def tw4721060664101222587:=0
def tw5740670948963655827:=0
def tw7959382052977302830:=0
def tw12048378895936822761:=0
def tw13041681419966504212:=0
def tw1170799152484763135:=0
def tw17119873471701543555:=0
def tw17324359726867756404:=0
def tw12560709681673001114:=0
def tw5862064696416777526:=0
def tw14825853656851742207:=0
def tw9614630221513063696:=0
def tw17872362282207350420:=0
def tw11412136129420843695:=0
def tw2526061651764012595:=0
def tw1696922745602376662:=0
def tw18116505458012611042:=0
def tw6823654373912756122:=0
def tw6222616343907411442:=0
def tw5580235432757836501:=0
def tw15075174518100357941:=0
def tw4207014158641127443:=0
def tw14141431574536844172:=0
def tw14146730062050697082:=0
def tw12989340896693596343:=0
def tw9613885745980862139:=0
def tw17874572826795657281:=0
def tw5895192718906958851:=0
def tw1834708860106473952:=0
def tw12795287964638559671:=0
def tw7468699767685732636:=0
def tw57819828467866376:=0
def tw6441921458526934785:=0
def tw11013031582417705957:=0
def tw12880161671797056768:=0
def tw4021710983478625417:=0
def tw12934283898844036723:=0
def tw15055673413110226212:=0
def tw9279792648848387842:=0
def tw739000771824356458:=0
def tw3899380522492421053:=0
def tw7995554125324622753:=0
def tw5732579298953333044:=0
def tw9824856308113004319:=0
def tw2104332448431927210:=0
def tw2587814433452531252:=0
def tw6805078572768777076:=0
def tw2239210935423204890:=0
def tw2887455993155468698:=0
def tw3812765073181216691:=0
def tw2473099970195325728:=0
def tw13598775587032566768:=0
def tw15514839984040231666:=0
def tw17087096144455009618:=0
def tw3816101347206533899:=0
def tw5693893348494746187:=0
def tw277569915115220045:=0
def tw10627118764436043289:=0
def tw17050493241951201579:=0
def tw17884298821761901531:=0
def tw10837457056069679947:=0
def tw13762427815489014144:=0
def tw4095772693221065685:=0
def tw3856579228137288642:=0
def tw8579935488812961726:=0
def tw12868132315258744706:=0
def tw14708342364326982067:=0
def tw2176231554452896527:=0
def tw1414435274314945723:=0
def tw5258985272173633433:=0
def tw9134181792041627982:=0
def tw14366637077306910263:=0
def tw6736802569022964703:=0
def tw14656433235621367131:=0
def tw1207374272929618194:=0
def tw16775246161414152204:=0
def tw8969250498733499115:=0
def tw9644719457899829607:=0
def tw12677095808144024103:=0
def tw16829012384006531236:=0
def tw4799632398842949946:=0
def tw206604910964636799:=0
def tw3642897394367523775:=0
def tw10129025311835976202:=0
def tw139399906478014955:=0
def tw10725641011335351098:=0
def tw6534231970055032751:=0
def tw14695264588136184963:=0
def tw8630711104848195705:=0
def tw3150008525313528296:=0
def tw15473415339009405100:=0
def tw1589056028171905330:=0
def tw6518978544984439647:=0
def tw17871640865631018544:=0
def tw5697157982494867896:=0
def tw2631582953459734481:=0
def tw17460026266985225804:=0
def tw18412633816702794481:=0
def tw3690513175953598521:=0
def tw15690825939759695531:=0
def tw7189364807396496069:=0
def tw4352251061702797077:=0
def tw10907671668707972797:=0
def tw8188906758499016450:=0
def tw12584541229019393283:=0
def tw820082555483916817:=0
def tw4014771494280557604:=0
def tw5136981664948191272:=0
def tw5369987948455645610:=0
def tw1693447164637840321:=0
def tw7722341976016694843:=0
def tw8227191307739292085:=0
def tw401187731021533631:=0
def tw1442280986847967139:=0
def tw13339629703427905269:=0
def tw2180792600692053961:=0
def tw5987756837778125011:=0
def tw2633458385480985930:=0
def tw17563335313360037673:=0
def tw11174975607915689988:=0
def tw16311928031197553774:=0
def tw11919413270652500037:=0
def tw8060644541982642002:=0
def tw10997859323521478865:=0
def tw1064136301978771811:=0
def tw13385910416458224622:=0
def tw12487655992631588788:=0
def tw6010881592046620659:=0
def tw13718994569214506137:=0
def tw9685920174713403981:=0
def tw9619002422632691444:=0
def tw11852329987876714311:=0
def tw11343343280660693622:=0
def tw3289057347981861895:=0
def tw13228473466530317102:=0
def tw2081845616472699287:=0
def tw585273943293866531:=0
def tw3071860230317584487:=0
def tw1000826625261026374:=0
def tw5826448877641434498:=0
def tw7561820605557841010:=0
def tw10964025278409820520:=0
def tw2079409911993873166:=0
def tw12472094325331848881:=0
def tw11836060212718457089:=0
def tw8963042514266622797:=0
def tw14082632764095712618:=0
def tw10022540521472724971:=0
def tw5236228591708294112:=0
def tw2024774632663756970:=0
def tw3377172227644510101:=0
def tw5236754158874937268:=0
def tw15624339759034818353:=0
def tw2812878201214030561:=0
def tw6864215794220194664:=0
def tw13974503789084223531:=0
def tw4985633298638539320:=0
def tw5839918372175746556:=0
def tw14035330353079930362:=0
def tw6338411039647822065:=0
def tw12061880348234129597:=0
def tw5882922777569191237:=0
def tw11929708396422255502:=0
def tw6148486079761536856:=0
def tw8102553013884186052:=0
def tw16028272879161702227:=0
def tw5479912978541766893:=0
def tw10597846551456729403:=0
def tw16092900941545701115:=0
def tw15072994801759867005:=0
def tw5781730417330067730:=0
def tw17436822712399276912:=0
def tw3221079371465946138:=0
def tw2318288462092040563:=0
def tw12652232632315911347:=0
def tw12411617704826621282:=0
def tw10298491804161296996:=0
def tw802174118653926956:=0
def tw4165589093491182404:=0
def tw5497322693772690511:=0
def tw6393306232750223182:=0
def tw9704331090309064896:=0
def tw15892910074990177348:=0
def tw8282448166523895635:=0
def tw9337235001035998228:=0
def tw18445721205216360872:=0
def tw13781893741481944488:=0
def tw11708563030332180024:=0
def tw15555713694792343354:=0
def tw177947585860279454:=0
def tw15698441581016761748:=0
def tw13651968615002103272:=0
def tw15347510346389254069:=0
def tw9714294677542485977:=0
def tw17715169227490439221:=0
end PySem.W.Fast
open PySem PySem.W PyProof.Rows
set_option maxRecDepth 100000 in
set_option maxHeartbeats 0 in
theorem PySem.Challenge.cw_lazyhoist_k70_still_papers_laid_holds : PySem.Challenge.rw_lazyhoist_k70_still_papers_laid.Holds := by
  w_on; o_law; k_head; (case hw => w_witness2)
  k_fill
  refine aY.walk (l := PySem.Challenge.rw_lazyhoist_k70_still_papers_laid) rfl rfl rfl (λw h Y => PySem.W.kIn_of Y) ?F
  case F =>
    intro w;refine ⟨⟨(?_:C.DE _ "law" (aY.top 68) none), (?_:C.DE _ "laid" (aY.top 46) none), (?_:C.DE _ "kept_rows" (aY.top 49) none), (?_:C.DE _ "joined" (aY.top 54) none), (?_:C.DE _ "with_target" (aY.top 5) none), (?_:C.DE _ "target_of" (aY.top 4) none), (?_:C.DE _ "hows_of" (aY.top 50) none), (?_:C.DE _ "boxes_of" (aY.top 47) none), (?_:C.DE _ "words_in" (aY.top 48) none), (?_:C.DE _ "truths_of" (aY.top 16) none), (?_:C.DE _ "still" (aY.top 44) none), (?_:C.DE _ "rows_that_reckon" (aY.top 14) none), (?_:C.DE _ "reckonings" (aY.top 13) none), (?_:C.DE _ "blocks_of" (aY.top 51) none), (?_:C.DE _ "block_of" (aY.top 52) none), (?_:C.DE _ "done_as" (aY.top 53) none), (?_:C.DE _ "reckoning_of" (aY.top 6) none), (?_:C.DE _ "_law_program" (aY.top 67) none), (?_:C.DE _ "_law_row" (aY.top 62) none), (?_:C.DE _ "_law_pool" (aY.top 61) none), (?_:C.DE _ "_law_operand" (aY.top 60) none), (?_:C.DE _ "_law_mended" (aY.top 66) none), (?_:C.DE _ "_law_reached" (aY.top 64) none), (?_:C.DE _ "_law_far" (aY.top 65) none), (?_:C.DE _ "_law_followers" (aY.top 63) none), (?_:C.DE _ "_law_drawn" (aY.top 59) none), (?_:C.DE _ "_law_mixed" (aY.top 58) none), (?_:C.DE _ "_law_names" (aY.top 57) none), (?_:C.DE _ "_law_cell" (aY.top 56) none), trivial⟩, ⟨?S6, ?S7, ?S8, ?S9, ?Ta, ?Tb, ?Tc, trivial⟩, trivial⟩
    iterate 29 (refine' C.QF ?a ?l ?c ?k; (case a => k_is); (case l => k_is); (case c => k_is); (case k => k_is))
    case S6 => (show PySem.W.nsIn _ mainGlobals "enumerate" = some none); k_is
    case S7 => (show PySem.W.nsIn _ mainGlobals "int" = some none); k_is
    case S8 => (show PySem.W.nsIn _ mainGlobals "isinstance" = some none); k_is
    case S9 => (show PySem.W.nsIn _ mainGlobals "len" = some none); k_is
    case Ta => (show PySem.W.nsIn _ mainGlobals "list" = some none); k_is
    case Tb => (show PySem.W.nsIn _ mainGlobals "range" = some none); k_is
    case Tc => (show PySem.W.nsIn _ mainGlobals "tuple" = some none); k_is
