import PyProof.Rows.All
import Wide.All
import OpenK.AllK
import Wide.FinOn
import Lean
import PyProof.EqAt
import PyProof.EqKinds
import PyProof.TupleCall
import PySem.Challenge.RW_lazyhoist_k33_whole_standing_or_a_way
set_option bootstrap.genMatcherCode false
set_option genSizeOf false
set_option tactic.hygienic false
set_option Elab.async false
set_option linter.all false
set_option maxRecDepth 100000
noncomputable section
set_option hygiene false
local macro_rules|`(command|abbrev $i $s:optDeclSig $v)=>`(command|noncomputable def $i $s:optDeclSig $v)
def rp:Nat→Lean.Syntax→Lean.MacroM (Lean.TSyntax `rcasesPat)
|0,_=>Lean.Macro.throwUnsupported
|n+1,x=>match x with
|`(⟨$a,*⟩)=>do let q←a.getElems.mapM λx=>rp n x;`(rcasesPat|⟨$[$q],*⟩)
|`(_)=>`(rcasesPat|_)
|x=>`(rcasesPat|$(⟨x⟩):ident)
local macro_rules|`(tactic|let $d:letDecl)=>`(tactic|have $d:letDecl)
section
variable{α β γ δ ε ζ:Sort _}{Z:Prop}
theorem E03{A B C:Prop}(h:A∧B∧C)(f:A→B→C→Z):Z:=f h.1 h.2.1 h.2.2
theorem E13{A B:α→Prop}(h:∃x,A x∧B x)(f:∀x,A x→B x→Z):Z:=h.elim λx h=>f x h.1 h.2
theorem E23{A:α→β→Prop}(h:∃x y,A x y)(f:∀x y,A x y→Z):Z:=h.elim λx h=>h.elim (f x)
theorem E04{A B C D:Prop}(h:A∧B∧C∧D)(f:A→B→C→D→Z):Z:=by obtain⟨a,b,c,d⟩:=h;exact f a b c d
theorem E14{A B C:α→Prop}(h:∃x,A x∧B x∧C x)(f:∀x,A x→B x→C x→Z):Z:=by obtain⟨x,a,b,c⟩:=h;exact f x a b c
theorem E24{A B:α→β→Prop}(h:∃x y,A x y∧B x y)(f:∀x y,A x y→B x y→Z):Z:=by obtain⟨x,y,a,b⟩:=h;exact f x y a b
theorem E34{A:α→β→γ→Prop}(h:∃x y z,A x y z)(f:∀x y z,A x y z→Z):Z:=by obtain⟨x,y,z,a⟩:=h;exact f x y z a
theorem E05{A B C D E:Prop}(h:A∧B∧C∧D∧E)(f:A→B→C→D→E→Z):Z:=by obtain⟨a,b,c,d,e⟩:=h;exact f a b c d e
theorem E15{A B C D:α→Prop}(h:∃x,A x∧B x∧C x∧D x)(f:∀x,A x→B x→C x→D x→Z):Z:=by obtain⟨x,a,b,c,d⟩:=h;exact f x a b c d
theorem E25{A B C:α→β→Prop}(h:∃x y,A x y∧B x y∧C x y)(f:∀x y,A x y→B x y→C x y→Z):Z:=by obtain⟨x,y,a,b,c⟩:=h;exact f x y a b c
theorem E35{A B:α→β→γ→Prop}(h:∃x y z,A x y z∧B x y z)(f:∀x y z,A x y z→B x y z→Z):Z:=by obtain⟨x,y,z,a,b⟩:=h;exact f x y z a b
theorem E06{A B C D E F:Prop}(h:A∧B∧C∧D∧E∧F)(f:A→B→C→D→E→F→Z):Z:=by obtain⟨a,b,c,d,e,g⟩:=h;exact f a b c d e g
theorem E16{A B C D E:α→Prop}(h:∃x,A x∧B x∧C x∧D x∧E x)(f:∀x,A x→B x→C x→D x→E x→Z):Z:=by obtain⟨x,a,b,c,d,e⟩:=h;exact f x a b c d e
theorem E26{A B C D:α→β→Prop}(h:∃x y,A x y∧B x y∧C x y∧D x y)(f:∀x y,A x y→B x y→C x y→D x y→Z):Z:=by obtain⟨x,y,a,b,c,d⟩:=h;exact f x y a b c d
theorem E36{A B C:α→β→γ→Prop}(h:∃x y z,A x y z∧B x y z∧C x y z)(f:∀x y z,A x y z→B x y z→C x y z→Z):Z:=by obtain⟨x,y,z,a,b,c⟩:=h;exact f x y z a b c
theorem E46{A B:α→β→γ→δ→Prop}(h:∃x y z u,A x y z u∧B x y z u)(f:∀x y z u,A x y z u→B x y z u→Z):Z:=by obtain⟨x,y,z,u,a,b⟩:=h;exact f x y z u a b
theorem E07{A B C D E F G:Prop}(h:A∧B∧C∧D∧E∧F∧G)(f:A→B→C→D→E→F→G→Z):Z:=by obtain⟨a,b,c,d,e,g,h⟩:=h;exact f a b c d e g h
theorem E27{A B C D E:α→β→Prop}(h:∃x y,A x y∧B x y∧C x y∧D x y∧E x y)(f:∀x y,A x y→B x y→C x y→D x y→E x y→Z):Z:=by obtain⟨x,y,a,b,c,d,e⟩:=h;exact f x y a b c d e
theorem E37{A B C D:α→β→γ→Prop}(h:∃x y z,A x y z∧B x y z∧C x y z∧D x y z)(f:∀x y z,A x y z→B x y z→C x y z→D x y z→Z):Z:=by obtain⟨x,y,z,a,b,c,d⟩:=h;exact f x y z a b c d
theorem E47{A B C:α→β→γ→δ→Prop}(h:∃x y z u,A x y z u∧B x y z u∧C x y z u)(f:∀x y z u,A x y z u→B x y z u→C x y z u→Z):Z:=by obtain⟨x,y,z,u,a,b,c⟩:=h;exact f x y z u a b c
theorem E57{A B:α→β→γ→δ→ε→Prop}(h:∃x y z u v,A x y z u v∧B x y z u v)(f:∀x y z u v,A x y z u v→B x y z u v→Z):Z:=by obtain⟨x,y,z,u,v,a,b⟩:=h;exact f x y z u v a b
theorem E08{A B C D E F G H:Prop}(h:A∧B∧C∧D∧E∧F∧G∧H)(f:A→B→C→D→E→F→G→H→Z):Z:=by obtain⟨a,b,c,d,e,g,h,i⟩:=h;exact f a b c d e g h i
theorem E28{A B C D E F:α→β→Prop}(h:∃x y,A x y∧B x y∧C x y∧D x y∧E x y∧F x y)(f:∀x y,A x y→B x y→C x y→D x y→E x y→F x y→Z):Z:=by obtain⟨x,y,a,b,c,d,e,g⟩:=h;exact f x y a b c d e g
theorem E38{A B C D E:α→β→γ→Prop}(h:∃x y z,A x y z∧B x y z∧C x y z∧D x y z∧E x y z)(f:∀x y z,A x y z→B x y z→C x y z→D x y z→E x y z→Z):Z:=by obtain⟨x,y,z,a,b,c,d,e⟩:=h;exact f x y z a b c d e
theorem E48{A B C D:α→β→γ→δ→Prop}(h:∃x y z u,A x y z u∧B x y z u∧C x y z u∧D x y z u)(f:∀x y z u,A x y z u→B x y z u→C x y z u→D x y z u→Z):Z:=by obtain⟨x,y,z,u,a,b,c,d⟩:=h;exact f x y z u a b c d
theorem E68{A B:α→β→γ→δ→ε→ζ→Prop}(h:∃x y z u v w,A x y z u v w∧B x y z u v w)(f:∀x y z u v w,A x y z u v w→B x y z u v w→Z):Z:=by obtain⟨x,y,z,u,v,w,a,b⟩:=h;exact f x y z u v w a b
theorem E09{A B C D E F G H I:Prop}(h:A∧B∧C∧D∧E∧F∧G∧H∧I)(f:A→B→C→D→E→F→G→H→I→Z):Z:=by obtain⟨a,b,c,d,e,g,h,i,j⟩:=h;exact f a b c d e g h i j
theorem E29{A B C D E F G:α→β→Prop}(h:∃x y,A x y∧B x y∧C x y∧D x y∧E x y∧F x y∧G x y)(f:∀x y,A x y→B x y→C x y→D x y→E x y→F x y→G x y→Z):Z:=by obtain⟨x,y,a,b,c,d,e,g,h⟩:=h;exact f x y a b c d e g h
theorem E39{A B C D E F:α→β→γ→Prop}(h:∃x y z,A x y z∧B x y z∧C x y z∧D x y z∧E x y z∧F x y z)(f:∀x y z,A x y z→B x y z→C x y z→D x y z→E x y z→F x y z→Z):Z:=by obtain⟨x,y,z,a,b,c,d,e,g⟩:=h;exact f x y z a b c d e g
theorem E49{A B C D E:α→β→γ→δ→Prop}(h:∃x y z u,A x y z u∧B x y z u∧C x y z u∧D x y z u∧E x y z u)(f:∀x y z u,A x y z u→B x y z u→C x y z u→D x y z u→E x y z u→Z):Z:=by obtain⟨x,y,z,u,a,b,c,d,e⟩:=h;exact f x y z u a b c d e
theorem E59{A B C D:α→β→γ→δ→ε→Prop}(h:∃x y z u v,A x y z u v∧B x y z u v∧C x y z u v∧D x y z u v)(f:∀x y z u v,A x y z u v→B x y z u v→C x y z u v→D x y z u v→Z):Z:=by obtain⟨x,y,z,u,v,a,b,c,d⟩:=h;exact f x y z u v a b c d
theorem E69{A B C:α→β→γ→δ→ε→ζ→Prop}(h:∃x y z u v w,A x y z u v w∧B x y z u v w∧C x y z u v w)(f:∀x y z u v w,A x y z u v w→B x y z u v w→C x y z u v w→Z):Z:=by obtain⟨x,y,z,u,v,w,a,b,c⟩:=h;exact f x y z u v w a b c
theorem E310{A B C D E F G:α→β→γ→Prop}(h:∃x y z,A x y z∧B x y z∧C x y z∧D x y z∧E x y z∧F x y z∧G x y z)(f:∀x y z,A x y z→B x y z→C x y z→D x y z→E x y z→F x y z→G x y z→Z):Z:=by obtain⟨x,y,z,a,b,c,d,e,g,h⟩:=h;exact f x y z a b c d e g h
theorem E510{A B C D E:α→β→γ→δ→ε→Prop}(h:∃x y z u v,A x y z u v∧B x y z u v∧C x y z u v∧D x y z u v∧E x y z u v)(f:∀x y z u v,A x y z u v→B x y z u v→C x y z u v→D x y z u v→E x y z u v→Z):Z:=by obtain⟨x,y,z,u,v,a,b,c,d,e⟩:=h;exact f x y z u v a b c d e
theorem E610{A B C D:α→β→γ→δ→ε→ζ→Prop}(h:∃x y z u v w,A x y z u v w∧B x y z u v w∧C x y z u v w∧D x y z u v w)(f:∀x y z u v w,A x y z u v w→B x y z u v w→C x y z u v w→D x y z u v w→Z):Z:=by obtain⟨x,y,z,u,v,w,a,b,c,d⟩:=h;exact f x y z u v w a b c d
theorem E311{A B C D E F G H:α→β→γ→Prop}(h:∃x y z,A x y z∧B x y z∧C x y z∧D x y z∧E x y z∧F x y z∧G x y z∧H x y z)(f:∀x y z,A x y z→B x y z→C x y z→D x y z→E x y z→F x y z→G x y z→H x y z→Z):Z:=by obtain⟨x,y,z,a,b,c,d,e,g,h,i⟩:=h;exact f x y z a b c d e g h i
theorem E511{A B C D E F:α→β→γ→δ→ε→Prop}(h:∃x y z u v,A x y z u v∧B x y z u v∧C x y z u v∧D x y z u v∧E x y z u v∧F x y z u v)(f:∀x y z u v,A x y z u v→B x y z u v→C x y z u v→D x y z u v→E x y z u v→F x y z u v→Z):Z:=by obtain⟨x,y,z,u,v,a,b,c,d,e,g⟩:=h;exact f x y z u v a b c d e g
theorem E312{A B C D E F G H I:α→β→γ→Prop}(h:∃x y z,A x y z∧B x y z∧C x y z∧D x y z∧E x y z∧F x y z∧G x y z∧H x y z∧I x y z)(f:∀x y z,A x y z→B x y z→C x y z→D x y z→E x y z→F x y z→G x y z→H x y z→I x y z→Z):Z:=by obtain⟨x,y,z,a,b,c,d,e,g,h,i,j⟩:=h;exact f x y z a b c d e g h i j
theorem E412{A B C D E F G H:α→β→γ→δ→Prop}(h:∃x y z u,A x y z u∧B x y z u∧C x y z u∧D x y z u∧E x y z u∧F x y z u∧G x y z u∧H x y z u)(f:∀x y z u,A x y z u→B x y z u→C x y z u→D x y z u→E x y z u→F x y z u→G x y z u→H x y z u→Z):Z:=by obtain⟨x,y,z,u,a,b,c,d,e,g,h,i⟩:=h;exact f x y z u a b c d e g h i
end
def sE(n:Nat)(a:Array Lean.Term)(e:Lean.Term):Nat→Lean.TSyntax `tactic→Lean.MacroM (Lean.TSyntax `tactic)
|0,r=>pure r
|k+1,r=>do let f:=Lean.mkIdent (.mkSimple s!"E{n-1-k}{n}");let c←(if e.raw.isIdent then`(tactic|try clear $(⟨e⟩):ident)else`(tactic|skip));let q←`(tactic|(refine $f $e ?_;$c;intro $a*));sE n a e k (←`(tactic|first|$q:tactic|$r:tactic))
local macro_rules|`(tactic|let $p:term:=$e)=>do
 let o←`(tactic|obtain $(←rp 9 p):rcasesPat:=$e)
 match p with
 |`(⟨$a,*⟩)=>do
  let a:=a.getElems
  if 3≤a.size&&a.size≤12&&a.all (λx=>x.raw.isOfKind `Lean.Parser.Term.hole||x.raw.isIdent&&!(x.raw.getId==`rfl)) then sE a.size a e a.size o else pure o
 |_=>pure o
noncomputable abbrev Qzx:=PySem.Value→PySem.Shared→Prop
noncomputable abbrev Qzj:=PySem.Addr→Prop
noncomputable abbrev Qzk:=PySem.W.Frag
noncomputable abbrev Qxq:=List (PySem.Addr×PySem.Obj)
noncomputable abbrev Qxz:=List PySem.Value
noncomputable abbrev Qxx:=Option PySem.Addr
noncomputable abbrev Qxj:=List Nat
noncomputable abbrev Qxk:=List Int
noncomputable abbrev Qjq:=List PySem.Expr
noncomputable abbrev Qjz:=List PySem.Str
def aA:=@PySem.wpAny_bind
def aO:=@PySem.wpAny_pure
def aW:=@Nat.le_refl
def a9:=@List.getElem?_eq_some_iff
def bt:=@of_decide_eq_true
def bx:=@Bool.false_ne_true
def bP:=@List.mem_map
def bZ:=@PySem.Heap.lt_size
def cg:=@List.mem_cons_self
def cA:=@List.getElem?_map
def cG:=@PySem.Heap.get?_push_of_some
def cM:=@PySem.Paired.length
def c9:=@List.mem_cons_of_mem
def de:=@congrArg
def dA:=@List.map_cons
def dB:=@PySem.SeqAt.room_here
def dC:=@List.getElem?_eq_getElem
def dM:=@Nat.le_trans
def dN:=@List.mem_cons
def dO:=@List.mem_of_getElem?
def dP:=@decide_eq_true
def eC:=@Option.some.inj
def eD:=@Nat.lt_of_le_of_lt
def eQ:=@decide_eq_false
def eR:=@List.getElem?_set_ne
def eU:=@List.length_map
def fw:=@List.length_append
def fH:=@Nat.ne_of_lt
def fM:=@Nat.lt_of_lt_of_le
def fN:=@List.isEmpty_iff
def gb:=@PySem.wpAny_mono
def gd:=@List.length_set
def gf:=@List.length_cons
def gD:=@PySem.Heap.get?_push_size
def gE:=@List.size_toArray
def gO:=@Int.emod_nonneg
def gY:=@List.map_map
def gZ:=@Int.emod_lt_of_pos
def iC:=@List.mem_range
def iD:=@List.mem_append
def jA:=@List.mem_append_left
def jD:=@List.mem_append_right
def jE:=@Nat.zero_le
def jF:=@List.take_add_one
def kf:=@Nat.lt_irrefl
def kg:=@PySem.wpAny_holding
def kh:=@Bool.eq_iff_iff
def kj:=@List.nodup_cons
def kl:=@Nat.not_lt_zero
def km:=@List.map_append
def ko:=@List.getD_eq_getElem?_getD
def lG:=@Ne.symm
def lH:=@List.length_take
def lI:=@Bool.and_eq_true
def lJ:=@List.all_eq_true
def mP:=@List.mem_filter
def mQ:=@List.lookup_cons
def mR:=@List.getElem?_set
def nZ:=@PySem.wpAny_truthy_bool
def n5:=@PySem.mem_of_lookup
def n6:=@Array.length_toList
def n8:=@PySem.wpAny_newObj_type
def n9:=@Array.getElem?_toList
def oa:=@Nat.le_of_eq
def og:=@List.getElem?_eq_none
def oh:=@PySem.W.kia_one
def oi:=@Option.toList_some
def pY:=@PySem.wpAny_call_entry
def pZ:=@PySem.wpAny_passesOwn
def p6:=@PyProof.Rows.callWith_type1
def p7:=@PySem.sizeLine_eq
def p8:=@List.getElem?_append_left
def p9:=@List.all_cons
def qa:=@List.any_cons
def qb:=@List.take_length
def qc:=@Int.toNat_natCast
def qd:=@List.any_eq_true
def sj:=@List.append_nil
def sk:=@PyProof.Rows.slot_tuple_getitem
def sr:=@List.nodup_nil
def su:=@List.getElem_mem
def sv:=@List.nodup_append
def sx:=@List.getElem?_mapIdx
def sC:=@List.map_congr_left
def vG:=@PySem.SeqAt.EqAt.same
def vH:=@PySem.Calls.spliced_cons
def vI:=@List.getElem?_replicate
def vJ:=@List.reverse_cons
def vK:=@PySem.tupleKind_room_in1
def vL:=@PySem.wpAny_dictEpoch
def vM:=@PySem.F.slot_dict_keyiterator_next
def vN:=@Nat.lt_or_ge
def vO:=@Classical.choose_spec
def vP:=@List.length_range
def vQ:=@PySem.W.mg_of
def vR:=@Int.toNat_of_nonneg
def vS:=@List.length_filter_le
def vT:=@Nat.testBit_lt_two_pow
def zY:=@PySem.typeIs_none
def zZ:=@PySem.F.slot_NoneType_hash
def z4:=@List.filterMap_cons
def z5:=@PySem.wpAny_execs_nil
def z6:=@PySem.wpAny_standAt
def z7:=@Int.natCast_nonneg
def z8:=@List.length_replicate
def z9:=@PySem.concat_meets
def Aa:=@PySem.wpAny_callSpecial?_slot
def Ab:=@List.replicate_succ
def Ac:=@List.flatten_cons
def Ad:=@Option.isSome_map
def Ae:=@PySem.F.slot_dict_get
def Af:=@PySem.wpAny_dictEntries
def Ag:=@PySem.wpAny_typeNameOfWhole_keyiter
def Ah:=@PySem.wpAny_typeNameOf_keyiter
def Ai:=@List.getElem?_eq_none_iff
def Aj:=@PySem.SeqAt.room_in
def Ak:=@PySem.wpAny_getItem_str_slice
def Al:=@PySem.post_val_or_str
def Am:=@PySem.Txt.slice_le
def An:=@Option.bind_some
def Ao:=@List.eq_of_mem_replicate
def Ap:=@List.getElem?_range
def Aq:=@List.cons.inj
def Ar:=@List.ext_getElem
def As:=@List.getElem_map
def FE:=@PySem.wpAny_specialOf
def FG:=@PySem.SeqAt.EqAt.int_str
def FH:=@PySem.SeqAt.EqAt.int_none
def FI:=@PySem.SeqAt.EqAt.str_int
def FJ:=@PySem.SeqAt.EqAt.str_none
def FK:=@PySem.SeqAt.EqAt.none_int
def FL:=@PySem.SeqAt.EqAt.none_str
def FN:=@List.mem_filterMap
def FP:=@PySem.wpAny_Call_Name_kw
def FQ:=@List.of_mem_zip
def FU:=@PySem.noFill_tuple_add
def FV:=@PySem.F.slot_tuple_add
def FW:=@PySem.F.entry_tuple_add
def FX:=@PySem.F.args_tuple_add_2
def FY:=@Bool.or_false
def FZ:=@PySem.Calls.callWith_builtin
def F0:=@List.map_nil
def F1:=@PySem.F.entry_dict_get
def F2:=@PySem.F.args_dict_get_3
def F3:=@List.drop_eq_getElem_cons
def F4:=@List.drop_length
def F5:=@Nat.pow_le_pow_right
def F6:=@Nat.eq_of_testBit_eq
def F7:=@List.mem_flatMap
def F8:=@decide_eq_true_eq
def Qq:=@Int.fdiv_eq_ediv_of_nonneg
def Qr:=@PySem.F.entry_dict_keyiterator_next
def Qs:=@PySem.F.args_dict_keyiterator_next_1
def Qt:=@Array.getElem?_eq_some_iff
def Qu:=@Array.getElem?_eq_getElem
def Qv:=@List.getElem?_cons_zero
def Qw:=@Nat.testBit_two_pow_add_gt
def Qx:=@Nat.testBit_two_pow_add_eq
def Qy:=@Nat.testBit_two_pow_of_ne
namespace L2
open PySem PySem.Spec PyProof.Rows
inductive Key where|inl (i:Int)|inr (x:Str)|non
 deriving DecidableEq
abbrev N4:Value→Bool
 |.none=>true
 |_=>false
def Vt{v:Value}(h:N4 v=true):v=.none:=by cases v<;>first|rfl|cases h
def rh:Key→Value→Bool
 |.inl k,v=>Value.isInt k v
 |.inr x,v=>Value.isStrOf x v
 |.non,v=>N4 v
abbrev adq(w:World):Key→Int
 |.inl k=>hashInt k
 |.inr x=>hashStr w x
 |.non=>4238894112
def kU:∀{k:Key}{v:Value},rh k v=true→(∃i t,k=.inl i∧v=Value.int i t)∨(∃x t,k=.inr x∧v=Value.str x t)∨(k=.non∧v=.none)
 |.inl i,v,h=>by
  let⟨t,e⟩:=Value.isInt_shape (k:=i) (v:=v) h;exact .inl ⟨i,t,rfl,e⟩
 |.inr x,v,h=>by
  let⟨t,e⟩:=Value.isStrOf_shape (x:=x) (v:=v) h;exact .inr (.inl ⟨x,t,rfl,e⟩)
 |.non,v,h=>.inr (.inr ⟨rfl,Vt h⟩)
def UI(i:Int)(t:Tok):rh (.inl i) (.int i t)=true:=by simp[rh,Value.isInt]
def UJ(x:Str)(t:Tok):rh (.inr x) (.str x t)=true:=by simp[rh,Value.isStrOf]
def YY(a b:Int):decide ((Key.inl a:Key)=.inl b)=(a==b):=by
 by_cases e:a=b
 ·subst e;simp
 ·rw[eQ λq=>e (Key.inl.inj q)];exact(beq_eq_false_iff_ne.mpr e).symm
def YZ(a b:Str):decide ((Key.inr a:Key)=.inr b)=decide (a=b):=by
 by_cases e:a=b
 ·subst e;simp
 ·rw[eQ λq=>e (Key.inr.inj q),eQ e]
def Jr{prog:Program}{w:World}{A:Around}{E:Qzx}{s:Shared}{Q:Int→Shared→Prop}(h:Q 4238894112 { s with toks:=s.toks+1 }):wpAny (model prog w) A (PySem.pyHash .none) Q E s:=by
 unfold PySem.pyHash;let hv:[Value.none].any Value.onHeap=false:=rfl;refine aA ?_;rw[cRoomFor,if_neg (by rw[hv];exact bx)];refine aO ?_;refine aA (FE (zY s) zZ.lookup ?_);show wpAny _ _ (if (some (Value.builtin "NoneType.__hash__")==some Value.none)=true then _ else _) Q E s;rw[if_neg (by rw[beq_builtin_none];exact bx)];refine aA (FE (zY s) zZ.lookup ?_);show wpAny _ _ (callSpecialIfBoundUnlessNone? .none "__hash__" _ >>= _) Q E s;refine aA (wpAny_callSpecialIfBoundUnlessNone?_slot (zY s) zZ
  (pY zZ (zY s) PySem.F.entry_NoneType_hash
   (show wpAny _ _ (do ret (←mkInt 4238894112)) _ _ s from wpAny_ret_mkInt ?_) (PySem.F.args_NoneType_hash_1 _)))
 exact aO h
def cN(prog:Program)(w:World):PySem.KeyKind prog w Key where
 is:=rh
 hash:=adq w
 inj:=λv a b ha hb=>by
  rcases kU ha with⟨i,t,rfl,rfl⟩|⟨x,t,rfl,rfl⟩|⟨rfl,rfl⟩<;>rcases kU hb with⟨j,u,rfl,e⟩|⟨y,u,rfl,e⟩|⟨rfl,e⟩<;>first|rfl | (injection e with e1 _;rw[e1];done) | (cases e;done)
 byValue:=λk v h=>by
  rcases kU h with⟨i,t,rfl,rfl⟩|⟨x,t,rfl,rfl⟩|⟨rfl,rfl⟩<;>rfl
 pyHash:=λhv h=>by
  rcases kU hv with⟨i,t,rfl,rfl⟩|⟨x,t,rfl,rfl⟩|⟨rfl,rfl⟩
  ·exact wpAny_pyHash_int h
  ·exact wpAny_pyHash_str h
  ·exact Jr h
 eqBool:=λhu hv h=>by
  rcases kU hu with⟨i,t,rfl,rfl⟩|⟨x,t,rfl,rfl⟩|⟨rfl,rfl⟩
  ·rcases kU hv with⟨j,u,rfl,rfl⟩|⟨y,u,rfl,rfl⟩|⟨rfl,rfl⟩
   ·rw[YY]at h;exact wpAny_eqBool_int h
   ·exact FG i t y u _ _ _ _ h
   ·exact FH i t _ _ _ _ h
  ·rcases kU hv with⟨j,u,rfl,rfl⟩|⟨y,u,rfl,rfl⟩|⟨rfl,rfl⟩
   ·exact FI x t j u _ _ _ _ h
   ·rw[YZ]at h;exact wpAny_eqBool_str h
   ·exact FJ x t _ _ _ _ h
  ·rcases kU hv with⟨j,u,rfl,rfl⟩|⟨y,u,rfl,rfl⟩|⟨rfl,rfl⟩
   ·exact FK j u _ _ _ _ h
   ·exact FL y u _ _ _ _ h
   ·exact vG .none _ _ _ _ h
 «strs»:=λk x t v h=>by
  rcases kU h with⟨i,u,rfl,e⟩|⟨y,u,rfl,e⟩|⟨rfl,e⟩
  ·exact nomatch e
  ·injection e with e1 _;subst e1;cases v<;>rfl
  ·exact nomatch e
def T7(prog:Program)(w:World)(i:Int)(t:Tok):(cN prog w).is (.inl i) (.int i t)=true:=UI i t
def T8(prog:Program)(w:World)(x:Str)(t:Tok):(cN prog w).is (.inr x) (.str x t)=true:=UJ x t
def T9(prog:Program)(w:World):(cN prog w).is .non .none=true:=rfl
inductive V where
 |non|bl (b:Bool)|int (i:Int)|str (x:Str)|hG (b:Array UInt8)|vU (b:UInt64)|ref (a:Addr)|ty (n:String)
 deriving DecidableEq
abbrev RelV:V→Value→Prop
 |.non,u=>u=Value.none
 |.bl b,u=>u=Value.bool b
 |.int i,u=>∃t,u=Value.int i t
 |.str x,u=>∃t,u=Value.str x t
 |.hG b,u=>∃t,u=Value.bytes b t
 |.vU b,u=>∃t,u=Value.float b t
 |.ref a,u=>u=Value.ref a
 |.ty n,u=>u=Value.type n
@[reducible]def Vals:List V→Qxz→Prop:=Paired RelV
theorem Vals.length{xs:List V}{us:Qxz}(r:Vals xs us):xs.length=us.length:=cM r
theorem Vals.get:∀{xs:List V}{us:Qxz}{i:Nat}{x:V},Vals xs us→xs[i]?=some x→∃u,us[i]?=some u∧RelV x u
 |_,_,_,_,.nil,e=>by simp at e
 |_,_,0,_,.cons r _,e=>by simp at e;subst e;exact⟨_,rfl,r⟩
 |_,_,i+1,x,.cons _ t,e=>by
  let⟨u,h1,h2⟩:=Vals.get (i:=i) (x:=x) t (by simpa using e);exact⟨u,by simpa using h1,h2⟩
theorem Vals.set{x:V}{u:Value}(r:RelV x u):∀{xs:List V}{us:Qxz} (i:Nat),Vals xs us→Vals (xs.set i x) (us.set i u)
 |_,_,_,.nil=>.nil
 |_,_,0,.cons _ t=>.cons r t
 |_,_,i+1,.cons q t=>.cons q (Vals.set r i t)
theorem Vals.append:∀{xs ys:List V}{us ws:Qxz},Vals xs us→Vals ys ws→Vals (xs++ys) (us++ws)
 |_,_,_,_,.nil,s=>s
 |_,_,_,_,.cons r t,s=>.cons r (Vals.append t s)
theorem Vals.take:∀{xs:List V}{us:Qxz} (n:Nat),Vals xs us→Vals (xs.take n) (us.take n)
 |_,_,0,_=>.nil
 |_,_,_+1,.nil=>.nil
 |_,_,n+1,.cons r t=>.cons r (Vals.take n t)
theorem Vals.drop:∀{xs:List V}{us:Qxz} (n:Nat),Vals xs us→Vals (xs.drop n) (us.drop n)
 |_,_,0,r=>r
 |_,_,_+1,.nil=>.nil
 |_,_,n+1,.cons _ t=>Vals.drop n t
def jo:Option V→Option Value→Prop
 |some v,some u=>RelV v u
 |none,none=>True
 |_,_=>False
def KV{κ:Type}:List (κ×V)→List (κ×Value)→Prop:=Paired λ(p:κ×V) (q:κ×Value)=>p.1=q.1∧RelV p.2 q.2
abbrev kV:Key→V
 |.inl i=>.int i
 |.inr x=>.str x
 |.non=>.non
inductive HO where
 |lst (xs:List V)
 |tup (xs:List V)
 |dK (aj:List (Key×V))|dT (aj:List (List Key×V))
 |set (S:Int→Bool) (n:Nat)
 |ins (C dx:Addr) (fs:List (Str×V))
 |own (x:Addr)
 |xd (fs:List (Str×V))
 |met (f x:Addr)
 |cu (lo hi:Int)
 |aZ (o:Obj) (u:HO)
 |mS (ps:Array Value)
 |ext (φ:Heap→Prop)
noncomputable abbrev Hp:=Addr→Option HO
abbrev upd(H:Hp)(a:Addr)(o:HO):Hp:=λb=>if b=a then some o else H b
def bQ{H:Hp}{a:Addr}{o:HO}:upd H a o a=some o:=by unfold upd;rw[if_pos rfl]
def aI{H:Hp}{a b:Addr}{o:HO}(h:b≠a):upd H a o b=H b:=by unfold upd;rw[if_neg h]
def rj{H:Hp}{a b:Addr}{o u:HO}(h:H a=some o)(h':H b=some u)(d:o≠u):a≠b:=by
 intro e;subst e;rw[h]at h';exact d (eC h')
def eZ{H:Hp}{a b:Addr}{o:HO}(h:H a=some o)(h':H b=none):a≠b:=by
 intro e;subst e;rw[h]at h';cases h'
def pE(h:Heap)(a:Addr)(items:Array Value):Prop:=∃o,h.get? a=some o∧o.cls=.type "tuple" ∧ o.dict=none∧∃n,o.data=.seq items n
def pE.tup{h:Heap}{a:Addr}{items:Array Value}(q:pE h a items):IsTup h a items:=let ⟨o,h1,h2,_,h3⟩:=q;⟨o,h1,h2,h3⟩
def pE.new(h:Heap)(items:Array Value):pE (h.push { cls:=.type "tuple",data:=.seq items }) h.objs.size items:=⟨_,gD _ rfl,rfl,rfl,_,rfl⟩
section
variable (P:Program)(w:World)
def cK(H:Hp)(h:Heap)(a:Addr):HO→Prop
 |.lst xs=>xs.length≤sizeLine∧∃(its:Qxz) (n:Nat),Vals xs its∧h.get? a=some { cls:=.type "list",data:=.seq its.toArray n }
 |.tup xs=>xs.length≤sizeLine∧∃its:Qxz,Vals xs its∧pE h a its.toArray
 |.dK aj=>aj.length≤sizeLine∧(a==sysModules)=false∧∃vs,KV aj vs∧h.DictOf (cN P w) a vs
 |.dT aj=>aj.length≤sizeLine∧(a==sysModules)=false∧∃xs:List (List Key×Addr×Value),
  Paired (λ(p:List Key×V) (q:List Key×Addr×Value)=>p.1=q.1∧H q.2.1=some (.tup (p.1.map kV))∧RelV p.2 q.2.2) aj xs ∧
  ∃o es ep,h.get? a=some o∧o.ExactDict∧o.data=.dict es ep∧es.toList=xs.map (entryOfKey (tupleKind (cN P w)))∧(xs.map (·.1)).Nodup
 |.set S n=>h.SetOf (intKind P w) a S n
 |.ins C dx fs=>H dx=some (.own a)∧fs.length≤1000∧dx≠a∧h.get? a=some (PySem.W.instObj C dx) ∧
  ∃mA,h.Ns1 dx mA∧(∀f,jo (fs.lookup f) (mA f))∧PySem.Within mA (fs.map (·.1))
 |.own _=>∃o,h.get? a=some o
 |.xd fs=>∃mA,h.Ns1 a mA∧∀f,jo (fs.lookup f) (mA f)
 |.cu lo hi=>∃t u v,h.get? a=some { cls:=.type "range",data:=.fields #[.int lo t,.int hi u,.int 1 v] }
 |.aZ o u=>h.get? a=some o∧cK H h a u
 |.mS ps=>h.get? a=some { cls:=.none,data:=.fields ps }
 |.met f x=>h.get? a=some (PySem.W.methodObj (.ref f) (.ref x))
 |.ext φ=>φ h∧(∃o,h.get? a=some o)∧∀h1 h2:Heap,φ h1→(∀o,h1.get? a=some o→h2.get? a=some o)→φ h2
def cX(H:Hp)(h:Heap):Prop:=∀a o,H a=some o→cK P w H h a o
end
section
variable {P:Program}{w:World}{H H':Hp}{h h':Heap}{a:Addr}{o:HO}
theorem cK.lt(x:cK P w H h a o):a<h.objs.size:=by
 cases o with
 |lst xs=>let⟨_,_,_,_,e⟩:=x;exact bZ e
 |tup xs=>let⟨_,_,_,p⟩:=x;exact p.tup.lt
 |dK aj=>let⟨_,_,_,_,o,_,_,e,_⟩:=x;exact bZ e
 |dT aj=>let⟨_,_,_,_,o,_,_,e,_⟩:=x;exact bZ e
 |set S n=>let⟨o,_,_,_,e,_⟩:=x;exact bZ e
 |ins C dx fs=>let⟨_,_,_,e,_⟩:=x;exact bZ e
 |own y=>let⟨_,e⟩:=x;exact bZ e
 |xd fs=>let⟨_,⟨_,_,_,e,_⟩,_⟩:=x;exact bZ e
 |cu lo hi=>let⟨_,_,_,e⟩:=x;exact bZ e
 |aZ ob u=>let⟨e,_⟩:=x;exact bZ e
 |mS ps=>exact bZ (show h.get? a=some _ from x)
 |met f y=>exact bZ (show h.get? a=some _ from x)
 |ext φ=>let⟨_,⟨_,e⟩,_⟩:=x;exact bZ e
theorem Paired.mE{α β:Type}{F G:α→β→Prop}:∀{l₁:List α}{l₂:List β},Paired F l₁ l₂→(∀a b,F a b→G a b)→Paired G l₁ l₂
 |_,_,.nil,_=>.nil
 |_,_,.cons r t,f=>.cons (f _ _ r) (Paired.mE t f)
def cK.nQ(x:cK P w H h a o)(k:∀b u,(b=a∨H b=some (.own a))→h.get? b=some u→h'.get? b=some u)
  (ho:∀b,H b=some (.own a)→H' b=some (.own a)) (ht:∀b xs,H b=some (.tup xs)→H' b=some (.tup xs)):cK P w H' h' a o:=by
 induction o with
 |lst xs=>let⟨z,its,n,r,e⟩:=x;exact⟨z,its,n,r,k _ _ (.inl rfl) e⟩
 |tup xs=>let⟨z,its,r,ob,e,c⟩:=x;exact⟨z,its,r,ob,k _ _ (.inl rfl) e,c⟩
 |dK aj=>let⟨z,y,vs,r,ob,es,ep,e,c⟩:=x;exact⟨z,y,vs,r,ob,es,ep,k _ _ (.inl rfl) e,c⟩
 |dT aj =>
  let⟨z,y,xs,r,ob,es,ep,e,c⟩:=x;exact⟨z,y,xs,Paired.mE r λp q z=>⟨z.1,ht _ _ z.2.1,z.2.2⟩,ob,es,ep,k _ _ (.inl rfl) e,c⟩
 |set S n=>let⟨ob,es,ep,t,e,c⟩:=x;exact⟨ob,es,ep,t,k _ _ (.inl rfl) e,c⟩
 |ins C dx fs =>
  let⟨d,z,ne,e,mA,⟨od,es,ep,e2,c⟩,r⟩:=x;exact⟨ho _ d,z,ne,k _ _ (.inl rfl) e,mA,⟨od,es,ep,k _ _ (.inr d) e2,c⟩,r⟩
 |own y=>let⟨ob,e⟩:=x;exact⟨ob,k _ _ (.inl rfl) e⟩
 |xd fs=>let⟨mA,⟨od,es,ep,e,c⟩,r⟩:=x;exact⟨mA,⟨od,es,ep,k _ _ (.inl rfl) e,c⟩,r⟩
 |cu lo hi=>let⟨t,u,v,e⟩:=x;exact⟨t,u,v,k _ _ (.inl rfl) e⟩
 |aZ ob u ih=>let⟨e,q⟩:=x;exact⟨k _ _ (.inl rfl) e,ih q⟩
 |mS ps =>
  let e:h.get? a=some { cls:=.none,data:=.fields ps }:=x;show h'.get? a=some { cls:=.none,data:=.fields ps };exact k a _ (.inl rfl) e
 |met f y =>
  let e:h.get? a=some (PySem.W.methodObj (.ref f) (.ref y)):=x;show h'.get? a=some (PySem.W.methodObj (.ref f) (.ref y));exact k a _ (.inl rfl) e
 |ext φ=>let⟨p,⟨o,e⟩,st⟩:=x;exact⟨st _ _ p λo q=>k _ _ (.inl rfl) q,⟨o,k _ _ (.inl rfl) e⟩,st⟩
theorem cX.lt(x:cX P w H h)(e:H a=some o):a<h.objs.size:=(x a o e).lt
def cX.fresh(x:cX P w H h)(e:h.objs.size≤a):H a=none:=by
 cases q:H a with
 |none=>rfl
 |some u=>exact absurd (fM (x.lt q) e) (kf _)
def cX.kept(x:cX P w H h)(k:∀b u,h.get? b=some u→h'.get? b=some u):cX P w H h':=λa o e =>
 (x a o e).nQ (λb u _ q=>k b u q) (λ_ q=>q) λ_ _ q=>q
def cX.laid(x:cX P w H h)(k:∀b u,h.get? b=some u→h'.get? b=some u)(hp:h.objs.size≤a)(new:cK P w (upd H a o) h' a o):cX P w (upd H a o) h':=λb u e=>by
 let hn:=x.fresh hp;by_cases hb:b=a
 ·subst hb;rw[bQ]at e;cases e;exact new
 ·rw[aI hb]at e;exact(x b u e).nQ (λc v _ q=>k c v q) (λc q=>by rw[aI (eZ q hn)];exact q) λc xs q=>by rw[aI (eZ q hn)];exact q
end
def Rd(H:Hp)(a:Addr)(u:HO):Prop:=H a=some u∨∃o,H a=some (.aZ o u)
def Rd.ok{P:Program}{w:World}{H:Hp}{h:Heap}{a:Addr}{u:HO}(r:Rd H a u)(x:cX P w H h):cK P w H h a u:=by
 rcases r with r|⟨o,r⟩
 ·exact x a u r
 ·let⟨_,q⟩:=x a _ r;exact q
abbrev vV:Option HO→Prop
 |some (.lst _)=>True
 |some (.dK _)=>True
 |some (.dT _)=>True
 |some (.set _ _)=>True
 |some (.ins _ _ _)=>True
 |some (.ext _)=>True
 |_=>False
section
variable {P:Program}{w:World}{H:Hp}{h h':Heap}{x e:Addr}{o':HO}
def cX.write(ok:cX P w H h)(mu:vV (H x))(he:e=x∨H e=some (.own x))(k:∀b u,b≠e→h.get? b=some u→h'.get? b=some u)(sE:∃u,h'.get? e=some u)
  (new:cK P w (upd H x o') h' x o'):cX P w (upd H x o') h':=λb u q=>by
 let OY:∀c y,H c=some (.own y)→c≠x:=λc y r z=>by subst z;rw[r]at mu;exact mu
 let ads:∀c xs,H c=some (.tup xs)→c≠x:=λc xs r z=>by subst z;rw[r]at mu;exact mu
 by_cases hb:b=x
 ·subst hb;rw[bQ]at q;cases q;exact new
 ·rw[aI hb]at q;by_cases kr:b=e
  ·let q':H b=some (.own x):=by
    rcases he with z|z
    ·exact absurd (kr.trans z) hb
    ·rw[kr];exact z
   rw[q]at q';cases q';let⟨v,hv⟩:=sE;exact⟨v,by rw[kr];exact hv⟩
  ·refine(ok b u q).nQ (λc v hc r=>k c v ?_ r) (λc r=>by rw[aI (OY c b r)];exact r) λc xs r=>by rw[aI (ads c xs r)];exact r
   rcases hc with rfl|hc
   ·exact kr
   ·rintro rfl;rcases he with z|z
    ·exact OY c b hc z
    ·rw[hc]at z;cases z;exact hb rfl
end
structure Un (fs ex:List Addr)(H H':Hp)(h h':Heap):Prop where
 keep:∀b o,h.get? b=some o→H b=none→b∉fs→b∉ex→h'.get? b=some o
 slot:∀b o,h.get? b=some o→H b=none→b∈fs→b∉ex→∃sl,h'.get? b=some { o with slots:=sl }
 free:∀b o,h.get? b=some o→H b=none→b∉ex→H' b=none
 there:∀b o,h.get? b=some o→b∉ex→∃o',h'.get? b=some o'
 mF:∀b xs,H b=some (.tup xs)→H' b=some (.tup xs)
 jW:∀b o u,H b=some (.aZ o u)→H' b=some (.aZ o u)
 mG:∀b ps,H b=some (.mS ps)→∃more,H' b=some (.mS (ps++more))
section
variable {fs fs' ex ex':List Addr}{H H1 H2:Hp}{h h1 h2 h':Heap}{a x e:Addr}{o:HO}
def Un.any(u:Un fs ex H H1 h h1){b:Addr}{ob:Obj}(q:h.get? b=some ob)(n:H b=none)(hx:b∉ex):∃sl,h1.get? b=some { ob with slots:=sl }:=by
 by_cases hb:b∈fs
 ·exact u.slot b ob q n hb hx
 ·exact⟨ob.slots,u.keep b ob q n hb hx⟩
def Un.kept(k:∀b u,h.get? b=some u→h'.get? b=some u):Un fs ex H H h h' :=
 ⟨λb ob q _ _ _=>k b ob q,λb ob q _ _ _=>⟨ob.slots,k b ob q⟩,λ_ _ _ n _=>n,λb ob q _=>⟨ob,k b ob q⟩,λ_ _ q=>q,λ_ _ _ q=>q,λ_ ps q=>⟨#[],by rw[q];simp⟩⟩
def Un.refl:Un fs ex H H h h:=Un.kept λ_ _ q=>q
def Un.laid(k:∀b u,h.get? b=some u→h'.get? b=some u)(hp:h.objs.size≤a)(hn:H a=none):Un fs ex H (upd H a o) h h' where
 keep:=λb u q _ _ _=>k b u q
 slot:=λb u q _ _ _=>⟨u.slots,k b u q⟩
 free:=λb u q n _=>by rw[aI (fH (fM (bZ q) hp))];exact n
 there:=λb u q _=>⟨u,k b u q⟩
 mF:=λb xs q=>by rw[aI (eZ q hn)];exact q
 jW:=λb u xs q=>by rw[aI (eZ q hn)];exact q
 mG:=λb ps q=>⟨#[],by rw[aI (eZ q hn),q];simp⟩
def Un.write(mu:vV (H x))(he:e=x∨H e=some (.own x))(k:∀b u,b≠e→h.get? b=some u→h'.get? b=some u)(sE:∃u,h'.get? e=some u):Un fs ex H (upd H x o) h h':=by
 let hx:∀b,H b=none→b≠x:=λb n z=>by subst z;rw[n]at mu;exact mu
 let hb:∀b,H b=none→b≠e:=λb n z=>by
  subst z;rcases he with r|r
  ·exact hx b n r
  ·rw[n]at r;cases r
 let hm:∀b u,H b=some u→¬vV (some u)→b≠x:=λb u q nm z=>by subst z;rw[q]at mu;exact nm mu
 refine⟨λb u q n _ _=>k b u (hb b n) q,λb u q n _ _=>⟨u.slots,k b u (hb b n) q⟩,λb u q n _=>by rw[aI (hx b n)];exact n,λb u q _=>?_,
  λb xs q=>by rw[aI (hm b _ q λz=>z)];exact q,λb u xs q=>by rw[aI (hm b _ q λz=>z)];exact q,λb ps q=>⟨#[],by rw[aI (hm b _ q λz=>z),q];simp⟩⟩
 by_cases kr:b=e
 ·subst kr;exact sE
 ·exact⟨u,k b u kr q⟩
end
abbrev Au(h:Heap)(H:Hp):List Addr:=(List.range h.objs.size).filter λa=>(H a).isSome
def mH(h:Heap)(H:Hp):Heap:=PySem.W.hideAll h (Au h H)
def UK(h:Heap)(H:Hp):(mH h H).objs.size=h.objs.size:=PySem.W.hideAll_size _ _
def Vu{h:Heap}{H:Hp}{b:Addr}{o:Obj}(e:h.get? b=some o)(n:H b=none):(mH h H).get? b=some o :=
 PySem.W.hideAll_get _ e λhm=>by
  let q:(H b).isSome=true:=(mP.mp hm).2;rw[n]at q;simp at q
def WZ{h:Heap}{H:Hp}{b:Addr}{o:Obj}(e:(mH h H).get? b=some o):h.get? b=some o∧H b=none:=by
 let e':h.get? b=some o:=PySem.W.of_hideAll (Au h H) e;refine⟨e',?_⟩;cases q:H b with
 |none=>rfl
 |some x =>
  let hm:b∈Au h H:=mP.mpr ⟨iC.mpr (bZ e'),by simp[q]⟩;let z:(mH h H).get? b=none:=PySem.W.hideAll_none (Au h H) hm;rw[z]at e;cases e
abbrev W0(g h:Heap)(L:Addr):Qxq:=(List.range h.objs.size).filterMap λa=>if a=L∨(g.get? a).isSome=true then none else (h.get? a).map λo=>(a,o)
def rest(g h:Heap)(L d:Addr):Qxq:=(W0 g h L).filter λp=>decide (p.1≠d)
structure Mod (K:Qzk)(mg:Str→Option Value)(base:Heap):Prop where
 F9:K.In base
 glob:base.Ns mainGlobals mg
 blt:∃mb,base.Ns builtinsNs mb∧∀x:Str,x ≠ "__name__" → mb x=bootBuiltins x
 nolimit:base.NoLimit
structure Cx where
 prog:Program
 w:World
 K:Qzk
 mg:Str→Option Value
 base:Heap
 A:Around
 N:Qjz
 s₀:Shared
 H₀:Hp
 env:Env
 outer:List Env
 stack:List Env
 ex:List Addr
 fn:Str→Bool
 calm:Bool
 pn:Qxq
 xe:Qzx
abbrev jG(l:List Env):List Addr:=l.filterMap (·.frame)
@[reducible]def Cx.fs(X:Cx):List Addr:=jG X.outer
def Av(sc:Scope)(x:Str):Prop:=sc.names.lookup x=some .local∨sc.names.lookup x=some .cell∨sc.names.lookup x=some .free
def Loc(sc:Scope)(x:Str):Prop:=sc.names.lookup x=some .local∨sc.names.lookup x=some .cell
def Look(env:Env)(h:Heap)(m:Str→Option Value)(x:Str)(u:Value):Prop :=
 (env.kindOf x=some .local∧m x=some u)∨((env.kindOf x=some .cell∨env.kindOf x=some .free)∧∃c,env.cells.lookup x=some c∧h.IsCell c (some u))
structure Cx.Ok (X:Cx):Prop where
 mod:Mod X.K X.mg X.base
 kind:X.env.scope.kind=.function
 glob:X.env.globals=mainGlobals
 blt:X.env.builtins=builtinsNs
 above:X.s₀.heap.objs.size≤X.env.locals
 inj:∀x y c,X.env.cells.lookup x=some c→X.env.cells.lookup y=some c→x=y
 has:∀x,(X.env.kindOf x=some .cell∨X.env.kindOf x=some .free)→∃c,X.env.cells.lookup x=some c
 vW:∀x c,X.fn x=true→X.env.cells.lookup x=some c→X.s₀.heap.objs.size≤c
 hd:X.calm=true→X.A.handled=none
 frames:X.A.frames=some X.stack
 Aw:X.stack=X.outer∨(X.stack=X.env::X.outer∧X.env.frame=some X.env.locals)
 Qz:∀b∈X.ex,b≠X.env.locals∧∀x c,X.env.cells.lookup x=some c→c≠b
 bs:∀b o,X.base.get? b=some o→X.s₀.heap.get? b=some o∧X.H₀ b=none
 mU:X.base.objs.size≤X.s₀.heap.objs.size
 vm:∀b o,X.base.get? b=some o→b∉X.ex
 zu:∀b∈X.ex,b∉X.fs
 jX:X.s₀.heap.FunFrames X.base X.outer
 sF:∀b∈X.fs,X.H₀ b=none
structure Inv (X:Cx)(pins:Qxq)(σ:List (Option V))(H:Hp)(s:Shared):Prop where
 ok:X.Ok
 os:s.os=X.s₀.os
 bare:AllBare s.gens
 base:Un X.fs X.ex X.H₀ H X.s₀.heap s.heap
 loc:∃m,s.heap.Ns X.env.locals m∧∀(i:Nat) (x:Str) (v:V),X.N[i]?=some x→σ[i]?=some (some v)→Av X.env.scope x→∃u,RelV v u∧Look X.env s.heap m x u
 cell:∀x c,X.env.cells.lookup x=some c→∃v,s.heap.IsCell c v
 free:H X.env.locals=none
 iO:∀x c,X.env.cells.lookup x=some c→H c=none
 pin:∀p∈X.pn++pins,s.heap.get? p.1=some p.2∧H p.1=none∧p.1≠X.env.locals∧p.1∉X.fs∧∀v,p.2.data≠.cell v
 aH:cX X.prog X.w H s.heap
 len:σ.length=X.N.length
section
variable {X:Cx}{pins:Qxq}{σ:List (Option V)}{H H':Hp}{s:Shared}{h':Heap}
def Cx.Ok.adt(ok:X.Ok){b:Addr}{o:Obj}(e:X.base.get? b=some o):b∉X.fs:=λhb=>by
 have:=(ok.jX.mem hb).1;rw[e]at this;cases this
theorem Inv.bs(I:Inv X pins σ H s):∀b o,X.base.get? b=some o→s.heap.get? b=some o∧H b=none:=λb o e =>
 ⟨I.base.keep b o (I.ok.bs b o e).1 (I.ok.bs b o e).2 (I.ok.adt e) (I.ok.vm b o e),I.base.free b o (I.ok.bs b o e).1 (I.ok.bs b o e).2 (I.ok.vm b o e)⟩
def Inv.bk(I:Inv X pins σ H s):∀b o,X.base.get? b=some o→s.heap.get? b=some o:=λb o e=>(I.bs b o e).1
theorem Inv.mod(I:Inv X pins σ H s):Mod X.K X.mg X.base:=I.ok.mod
def Inv.iE(I:Inv X pins σ H s):X.K.In s.heap:=I.ok.mod.F9.keeps I.bk
def Inv.fr(I:Inv X pins σ H s):∃m,Fr X.base X.env.locals s.heap m :=
 let ⟨m,hn,_⟩:=I.loc
 ⟨m,hn,I.bk,dM I.ok.mU I.ok.above⟩
theorem Inv.lt(I:Inv X pins σ H s):X.env.locals<s.heap.objs.size:=let ⟨_,hn,_⟩:=I.loc;hn.lt
def Inv.sz(I:Inv X pins σ H s):X.s₀.heap.objs.size≤s.heap.objs.size:=dM I.ok.above (Nat.le_of_lt I.lt)
def Inv.adu(I:Inv X pins σ H s){a:Addr}(h:s.heap.objs.size≤a):a∉X.fs:=λhb=>by
 let⟨_,o,ho,_⟩:=I.ok.jX.mem hb;exact absurd (fM (bZ ho) (dM I.sz h)) (kf _)
def Inv.qe(I:Inv X pins σ H s):∀x c,X.env.cells.lookup x=some c→c≠X.env.locals:=λx c e z=>by
 let⟨v,o,ho,hd⟩:=I.cell x c e;let⟨m,⟨o',es,ep,hJ,sH,_⟩,_⟩:=I.loc;rw[z,hJ]at ho;cases ho;rw[sH]at hd;cases hd
theorem Inv.jX(I:Inv X pins σ H s):s.heap.FunFrames X.base X.outer:=by
 let all:∀(l:List Env),(∀b∈jG l,b∈X.fs)→X.s₀.heap.FunFrames X.base l→s.heap.FunFrames X.base l:=by
  intro l
  induction l with
  |nil=>intro _ _;trivial
  |cons env r ih =>
   intro hs hl;let⟨hk,⟨L,o,hf,hn,ho,hd⟩,hr⟩:=hl;let hL:L∈X.fs:=hs L (by unfold jG;rw[z4,hf];exact cg);let⟨sl,e⟩:=I.base.slot L o ho (I.ok.sF L hL) hL λz=>I.ok.zu L z hL;exact⟨hk,⟨L,_,hf,hn,e,hd⟩,ih (λb hb=>hs b (by unfold jG;rw[z4,hf];exact c9 _ hb)) hr⟩
 exact all X.outer (λ_ hb=>hb) I.ok.jX
theorem Inv.stack(I:Inv X pins σ H s):s.heap.FunFrames X.base X.stack:=by
 rcases I.ok.Aw with e|⟨e,hf⟩
 ·rw[e];exact I.jX
 ·rw[e];let⟨m,hn,_⟩:=I.loc;refine .cons (by rw[I.ok.kind];decide) hf hn ?_ I.jX;exact Heap.get?_none_of_le (dM I.ok.mU I.ok.above)
def Inv.DS(I:Inv X pins σ H s):∀b∈jG X.stack,b∈X.env.locals::X.fs:=λb hb=>by
 rcases I.ok.Aw with e|⟨e,hf⟩
 ·rw[e]at hb;exact c9 _ hb
 ·rw[e]at hb;unfold jG at hb;rw[z4,hf]at hb;exact hb
def Inv.KZ(I:Inv X pins σ H s):∀b∈jG X.stack,H b=none:=λb hb=>by
 rcases dN.mp (I.DS b hb)with e|hb
 ·rw[e];exact I.free
 ·let⟨_,o,ho,_⟩:=I.ok.jX.mem hb;exact I.base.free b o ho (I.ok.sF b hb) λz=>I.ok.zu b z hb
def Inv.step{g':Array GenState}{t':Nat}{d':Drawn}{ch:List Addr}(I:Inv X pins σ H s)
  (lK:∀b∈ch,(b∈X.ex∨X.s₀.heap.objs.size≤b)∧b≠X.env.locals∧(∀x c,X.env.cells.lookup x=some c→c≠b)∧∀p∈X.pn++pins,p.1≠b)
  (keep:∀b o,b≠X.env.locals→b∉X.fs→b∉ch→s.heap.get? b=some o→H b=none→h'.get? b=some o)
  (slot:∀b o,b≠X.env.locals→b∈X.fs→b∉ch→s.heap.get? b=some o→H b=none→∃sl,h'.get? b=some { o with slots:=sl }) (free:∀b o,b∉ch→s.heap.get? b=some o→H b=none→H' b=none)
  (there:∀b o,b∉ch→s.heap.get? b=some o→∃o',h'.get? b=some o')
  (mF:∀b xs,H b=some (.tup xs)→H' b=some (.tup xs)) (jW:∀b o u,H b=some (.aZ o u)→H' b=some (.aZ o u)) (mG:∀b ps,H b=some (.mS ps)→∃more,H' b=some (.mS (ps++more)))
  (ns:∀m,s.heap.Ns X.env.locals m→h'.Ns X.env.locals m) (aH:cX X.prog X.w H' h') (hg:AllBare g') :
  Inv X pins σ H' { s with heap:=h',gens:=g',drawn:=d',toks:=t' }:=by
 let qf:∀b o,X.s₀.heap.get? b=some o→b≠X.env.locals:=λb o e=>fH (fM (bZ e) I.ok.above);let mV:∀b o,X.s₀.heap.get? b=some o→b∉X.ex→b∉ch:=λb o e hx hb=>by
  rcases (lK b hb).1 with z|z
  ·exact hx z
  ·exact absurd (fM (bZ e) z) (kf _)
 let cellK:∀x c,X.env.cells.lookup x=some c→∀v,s.heap.IsCell c v→h'.IsCell c v:=λx c e v ⟨o,ho,hd⟩=>by
  let vX:c∉ch:=λz=>(lK c z).2.2.1 x c e rfl;by_cases hc:c∈X.fs
  ·let⟨sl,q⟩:=slot c o (I.qe x c e) hc vX ho (I.iO x c e);exact⟨_,q,hd⟩
  ·exact⟨o,keep c o (I.qe x c e) hc vX ho (I.iO x c e),hd⟩
 refine⟨I.ok,I.os,hg,⟨λb o e n hb hx=>?_,λb o e n hb hx=>?_,λb o e n hx=>?_,λb o e hx=>?_,λb xs e=>mF b xs (I.base.mF b xs e),λb o xs e=>jW b o xs (I.base.jW b o xs e),λb ps e=>?_⟩,?_,λx c e=>?_,?_,λx c e=>?_,λp hp=>?_,aH,I.len⟩
 ·exact keep b o (qf b o e) hb (mV b o e hx) (I.base.keep b o e n hb hx) (I.base.free b o e n hx)
 ·let⟨sl,e1⟩:=I.base.slot b o e n hb hx;let⟨sl',e2⟩:=slot b _ (qf b o e) hb (mV b o e hx) e1 (I.base.free b o e n hx);exact⟨sl',e2⟩
 ·let⟨o',e1⟩:=I.base.there b o e hx;exact free b o' (mV b o e hx) e1 (I.base.free b o e n hx)
 ·let⟨o',e1⟩:=I.base.there b o e hx;exact there b o' (mV b o e hx) e1
 ·let⟨m1,e1⟩:=I.base.mG b ps e;let⟨m2,e2⟩:=mG b _ e1;exact⟨m1++m2,by rw[e2,Array.append_assoc]⟩
 ·let⟨m,hn,hl⟩:=I.loc;refine⟨m,ns m hn,λi x v e1 e2 e3=>?_⟩;let⟨u,r,l⟩:=hl i x v e1 e2 e3;refine⟨u,r,?_⟩;rcases l with l|⟨k,c,e,z⟩
  ·exact .inl l
  ·exact .inr ⟨k,c,e,cellK x c e _ z⟩
 ·let⟨v,z⟩:=I.cell x c e;exact⟨v,cellK x c e v z⟩
 ·let⟨m,⟨o,_,_,ho,_⟩,_⟩:=I.loc;exact free _ o (λz=>(lK _ z).2.1 rfl) ho I.free
 ·let⟨v,o,ho,hd⟩:=I.cell x c e;exact free c o (λz=>(lK c z).2.2.1 x c e rfl) ho (I.iO x c e)
 ·let⟨e,n,ne,nf,d⟩:=I.pin p hp;let vX:p.1∉ch:=λz=>(lK p.1 z).2.2.2 p hp rfl;exact⟨keep p.1 p.2 ne nf vX e n,free p.1 p.2 vX e n,ne,nf,d⟩
def Inv.un{t':Nat}(I:Inv X pins σ H s)(u:Un X.fs [] H H' s.heap h')(aH:cX X.prog X.w H' h'):Inv X pins σ H' { s with heap:=h',toks:=t' }:=by
 let⟨m,⟨o,es,ep,ho,r⟩,_⟩:=id I.loc;let⟨sl,hL⟩:=u.any ho I.free (by simp);exact I.step (g':=s.gens) (d':=s.drawn) (ch:=[]) (λ_ z=>nomatch z) (λb o _ hb _ e n=>u.keep b o e n hb (by simp)) (λb o _ hb _ e n=>u.slot b o e n hb (by simp)) (λb o _ e n=>u.free b o e n (by simp)) (λb o _ e=>u.there b o e (by simp)) u.mF u.jW u.mG (λm' hm=>by
  let⟨o',Ax,Ay,hJ,r'⟩:=hm;rw[ho]at hJ;cases hJ;exact⟨_,Ax,Ay,hL,r'⟩) aH I.bare
def Inv.call{g':Array GenState}{t':Nat}{d':Drawn}{ch:List Addr}(I:Inv X pins σ H s)(u:Un (jG X.stack) ch H H' s.heap h')(aH:cX X.prog X.w H' h')(hg:AllBare g')
  (lK:∀b∈ch,(b∈X.ex∨X.s₀.heap.objs.size≤b)∧b≠X.env.locals∧(∀x c,X.env.cells.lookup x=some c→c≠b)∧∀p∈X.pn++pins,p.1≠b) :
  Inv X pins σ H' { s with heap:=h',gens:=g',drawn:=d',toks:=t' }:=by
 let⟨m,⟨o,es,ep,ho,r⟩,_⟩:=id I.loc;let⟨sl,hL⟩:=u.any ho I.free λz=>(lK _ z).2.1 rfl;exact I.step (ch:=ch) lK (λb o hL hb hc e n=>u.keep b o e n (λz=>(dN.mp (I.DS b z)).elim hL hb) hc) (λb o _ _ hc e n=>u.any e n hc) (λb o hc e n=>u.free b o e n hc) (λb o hc e=>u.there b o e hc) u.mF u.jW u.mG (λm' hm=>by
  let⟨o',Ax,Ay,hJ,r'⟩:=hm;rw[ho]at hJ;cases hJ;exact⟨_,Ax,Ay,hL,r'⟩) aH hg
def Inv.turned{t':Nat}{it:Addr}(I:Inv X pins σ H s)(k:∀b o,b≠it→s.heap.get? b=some o→h'.get? b=some o)(hn:H it=none)(hL:it≠X.env.locals)
  (h1:it∈X.ex∨X.s₀.heap.objs.size≤it) (h2:∀x c,X.env.cells.lookup x=some c→c≠it) (h3:∀p∈X.pn++pins,p.1≠it):Inv X pins σ H { s with heap:=h',toks:=t' }:=by
 let oj:∀b u,H b=some u→b≠it:=λb u e z=>by rw[z,hn]at e;cases e
 refine I.step (g':=s.gens) (d':=s.drawn) (ch:=[it]) (λb hb=>?_) (λb o _ _ hc e _=>k b o (λz=>hc (by simp[z])) e) (λb o _ _ hc e _=>⟨o.slots,k b o (λz=>hc (by simp[z])) e⟩) (λ_ _ _ _ n=>n)
  (λb o hc e=>⟨o,k b o (λz=>hc (by simp[z])) e⟩) (λ_ _ e=>e) (λ_ _ _ e=>e) (λb ps e=>⟨#[],by rw[e];simp⟩) (λm hm=>?_) (λb u e=>?_) I.bare
 ·let e:b=it:=by simpa using hb
  subst e;exact⟨h1,hL,h2,h3⟩
 ·let⟨o,es,ep,ho,r⟩:=hm;exact⟨o,es,ep,k _ o (lG hL) ho,r⟩
 ·refine(I.aH b u e).nQ (λc v hc q=>k c v ?_ q) (λ_ q=>q) λ_ _ q=>q;rcases hc with z|z
  ·rw[z];exact oj b u e
  ·exact oj c _ z
def Inv.tok(I:Inv X pins σ H s)(t:Nat):Inv X pins σ H { s with toks:=t }:=I.un (h':=s.heap) (t':=t) Un.refl I.aH
theorem Inv.kept{t':Nat}(I:Inv X pins σ H s)(k:∀b u,s.heap.get? b=some u→h'.get? b=some u):Inv X pins σ H { s with heap:=h',toks:=t' }:=I.un (Un.kept k) (I.aH.kept k)
theorem Inv.laid{a:Addr}{o:HO}{t':Nat}(I:Inv X pins σ H s)(k:∀b u,s.heap.get? b=some u→h'.get? b=some u)(hp:s.heap.objs.size≤a)(new:cK X.prog X.w (upd H a o) h' a o) :
 Inv X pins σ (upd H a o) { s with heap:=h',toks:=t' }:=I.un (Un.laid k hp (I.aH.fresh hp)) (I.aH.laid k hp new)
theorem Inv.write{x e:Addr}{o:HO}{t':Nat}(I:Inv X pins σ H s)(mu:vV (H x))(he:e=x∨H e=some (.own x))(k:∀b u,b≠e→s.heap.get? b=some u→h'.get? b=some u)(sE:∃u,h'.get? e=some u)
 (new:cK X.prog X.w (upd H x o) h' x o):Inv X pins σ (upd H x o) { s with heap:=h',toks:=t' }:=I.un (Un.write mu he k sE) (I.aH.write mu he k sE new)
def Inv.weak{σ':List (Option V)}(I:Inv X pins σ H s)(hl:σ'.length=σ.length)(w:∀(i:Nat) v,σ'[i]?=some (some v)→σ[i]?=some (some v)):Inv X pins σ' H s :=
 ⟨I.ok,I.os,I.bare,I.base,let ⟨m,hn,hl'⟩:=I.loc;⟨m,hn,λi x v e1 e2 e3=>hl' i x v e1 (w i v e2) e3⟩,I.cell,I.free,I.iO,I.pin,I.aH,hl.trans I.len⟩
def Inv.K0{N5:Qxq}(I:Inv X pins σ H s)(h:∀p∈N5,s.heap.get? p.1=some p.2∧H p.1=none∧p.1≠X.env.locals∧p.1∉X.fs∧∀v,p.2.data≠.cell v):Inv X N5 σ H s :=
 ⟨I.ok,I.os,I.bare,I.base,I.loc,I.cell,I.free,I.iO,λp hp=>(iD.mp hp).elim (λz=>I.pin p (jA _ z)) (h p),I.aH,I.len⟩
def uk{N:Qjz}(hN:N.Nodup){i j:Nat}{x:Str}(a:N[i]?=some x)(b:N[j]?=some x):i=j:=by
 let⟨h1,e1⟩:=a9.mp a;let⟨h2,e2⟩:=a9.mp b;exact(List.getElem_inj hN).mp (e1.trans e2.symm)
def Js{M:Model}{A:Around}{E:Qzx}{i:Nat}{x:Str}{v:V}{u:Value}{Q:Unit→Shared→Prop}(I:Inv X pins σ H s)(hN:X.N.Nodup)(hi:X.N[i]?=some x)(hx:Loc X.env.scope x)(r:RelV v u)
  (h:∀s',Inv X pins (σ.set i (some v)) H s'→(∃a,Heap.SameBut a s.heap s'.heap∧(a=X.env.locals∨X.env.cells.lookup x=some a))→Q () s') (hf:X.fn x=true∨X.env.scope.names.lookup x=some .local:=by first|exact .inl rfl|exact .inr rfl|assumption):wpAny M A (storeName X.env x u) Q E s:=by
 let⟨m,hn,hl⟩:=id I.loc;let adv:(X.env.scope.kind==.class||(X.env.scope.kind==.module&&X.env.locals != X.env.globals))=false:=by rw[I.ok.kind];rfl
 let OZ:i<σ.length:=by rw[I.len];exact(a9.mp hi).1
 let qe:=I.qe;let tracked:∀{a:Addr}{h':Heap},(∃o,s.heap.get? a=some o∧H a=none)→Heap.SameBut a s.heap h'→cX X.prog X.w H h':=λ{a h'} ha hs b ob e=>by
  let⟨_,_,y0⟩:=ha;refine(I.aH b ob e).nQ (λc w' hc q=>(hs.2 c ?_).trans q) (λ_ q=>q) λ_ _ q=>q;rintro rfl;rcases hc with rfl|hc
  ·rw[y0]at e;cases e
  ·rw[y0]at hc;cases hc
 rcases hx with hk|hk
 ·refine wpAny_storeName_local hk hn (λh' lL hs=>?_) adv;let⟨oL,_,_,vY,_⟩:=id hn;refine h _ ⟨I.ok,I.os,I.bare,⟨λb o e n hb hx=>?_,λb o e n hb hx=>?_,I.base.free,λb o e hx=>?_,I.base.mF,I.base.jW,I.base.mG⟩,⟨_,lL,λj y v' e1 e2 e3=>?_⟩,λy c e=>?_,I.free,I.iO,λp hp=>?_,tracked ⟨oL,vY,I.free⟩ hs,by simpa using I.len⟩ ⟨_,hs,.inl rfl⟩
  ·exact(hs.2 b (fH (fM (bZ e) I.ok.above))).trans (I.base.keep b o e n hb hx)
  ·let⟨sl,e1⟩:=I.base.slot b o e n hb hx;exact⟨sl,(hs.2 b (fH (fM (bZ e) I.ok.above))).trans e1⟩
  ·let⟨o',e1⟩:=I.base.there b o e hx;exact⟨o',(hs.2 b (fH (fM (bZ e) I.ok.above))).trans e1⟩
  ·by_cases hj:j=i
   ·subst hj;rw[hi]at e1;cases e1;rw[List.getElem?_set_self OZ]at e2;cases e2;exact⟨u,r,.inl ⟨hk,by simp⟩⟩
   ·rw[eR (lG hj)]at e2;let⟨u',r',q⟩:=hl j y v' e1 e2 e3;refine⟨u',r',?_⟩;rcases q with⟨k,e⟩|⟨k,c,e,z⟩
    ·refine .inl ⟨k,?_⟩;have:y≠x:=λe=>hj (uk hN e1 (e▸hi));simp[this,e]
    ·exact .inr ⟨k,c,e,z.sameBut hs (qe y c e)⟩
  ·let⟨w',z⟩:=I.cell y c e;exact⟨w',z.sameBut hs (qe y c e)⟩
  ·let⟨e,n,ne,nf,d⟩:=I.pin p hp;exact⟨(hs.2 p.1 ne).trans e,n,ne,nf,d⟩
 ·let Ga:X.fn x=true:=by
   rcases hf with z|z
   ·exact z
   ·rw[z]at hk;cases hk
  let⟨c,hc⟩:=I.ok.has x (.inl hk);let⟨w',z⟩:=I.cell x c hc;refine wpAny_storeName_cell I.ok.kind hk hc z (λh' QB hs=>?_);let⟨oc,QC,adw⟩:=id z;refine h { s with heap:=h' } ⟨I.ok,I.os,I.bare,⟨λb o e n hb hx=>?_,λb o e n hb hx=>?_,I.base.free,λb o e hx=>?_,I.base.mF,I.base.jW,I.base.mG⟩,⟨m,hn.sameBut hs (lG (qe x c hc)),λj y v' e1 e2 e3=>?_⟩,λy c' e=>?_,I.free,I.iO,λp hp=>?_,tracked ⟨oc,QC,I.iO x c hc⟩ hs,by simpa using I.len⟩ ⟨c,hs,.inr hc⟩
  ·exact(hs.2 b (fH (fM (bZ e) (I.ok.vW x c Ga hc)))).trans (I.base.keep b o e n hb hx)
  ·let⟨sl,e1⟩:=I.base.slot b o e n hb hx;exact⟨sl,(hs.2 b (fH (fM (bZ e) (I.ok.vW x c Ga hc)))).trans e1⟩
  ·let⟨o',e1⟩:=I.base.there b o e hx;exact⟨o',(hs.2 b (fH (fM (bZ e) (I.ok.vW x c Ga hc)))).trans e1⟩
  ·by_cases hj:j=i
   ·subst hj;rw[hi]at e1;cases e1;rw[List.getElem?_set_self OZ]at e2;cases e2;exact⟨u,r,.inr ⟨.inl hk,c,hc,QB⟩⟩
   ·rw[eR (lG hj)]at e2;let⟨u',r',q⟩:=hl j y v' e1 e2 e3;refine⟨u',r',?_⟩;rcases q with q|⟨k,c',e,z'⟩
    ·exact .inl q
    ·refine .inr ⟨k,c',e,z'.sameBut hs ?_⟩;rintro rfl;exact hj (uk hN e1 (I.ok.inj _ _ _ e hc▸hi))
  ·by_cases Gb:c'=c
   ·subst Gb;exact⟨_,QB⟩
   ·let⟨w2,z2⟩:=I.cell y c' e;exact⟨w2,z2.sameBut hs Gb⟩
  ·let⟨e,n,ne,nf,d⟩:=I.pin p hp;refine⟨(hs.2 p.1 ?_).trans e,n,ne,nf,d⟩;intro q;rw[q,QC]at e;let q':oc=p.2:=eC e;exact d w' (by rw[←q'];exact adw)
def J6{M:Model}{A:Around}{E:Qzx}{i:Nat}{x:Str}{v:V}{u:Value}{Q:Unit→Shared→Prop}(I:Inv X pins σ H s)(hN:X.N.Nodup)(hi:X.N[i]?=some x)(hx:Loc X.env.scope x)(r:RelV v u)
  (h:∀s',Inv X pins (σ.set i (some v)) H s'→Q () s') (hf:X.fn x=true∨X.env.scope.names.lookup x=some .local:=by first|exact .inl rfl|exact .inr rfl|assumption):wpAny M A (storeName X.env x u) Q E s :=
 Js I hN hi hx r (λs' I' _=>h s' I') hf
def Inv.abD{s':Shared}{ch:List Addr}(I:Inv X pins σ H s)(ho:s'.os=s.os)(u:Un (jG X.stack) ch H H' s.heap s'.heap)(aH:cX X.prog X.w H' s'.heap)(hg:AllBare s'.gens)
  (lK:∀b∈ch,(b∈X.ex∨X.s₀.heap.objs.size≤b)∧b≠X.env.locals∧(∀x c,X.env.cells.lookup x=some c→c≠b)∧∀p∈X.pn++pins,p.1≠b):Inv X pins σ H' s':=by
 let⟨h',g',d',t',o'⟩:=s';let e:o'=s.os:=ho;subst e;exact I.call (g':=g') (t':=t') (d':=d') u aH hg lK
end
noncomputable abbrev XK:=Value→Qxx→Hp→Prop
noncomputable abbrev St:=List (Option V)
noncomputable abbrev VK:=V→Hp→Prop
noncomputable abbrev TE:=St→Hp→VK→Prop
noncomputable abbrev TT:=St→Hp→(Bool→Hp→Prop)→Prop
noncomputable abbrev TA:=St→Hp→(List V→Hp→Prop)→Prop
structure Ends where
 nx:St→Hp→Prop
 rt:VK
 bk:St→Hp→Prop:=λ_ _=>False
 ct:St→Hp→Prop:=λ_ _=>False
noncomputable abbrev TS:=Ends→St→Hp→Prop
def EP(X:Cx)(pins:Qxq)(σ:St)(Q:VK)(u:Value)(s':Shared):Prop:=∃v H',Inv X pins σ H' s'∧RelV v u∧Q v H'
def TP(X:Cx)(pins:Qxq)(σ:St)(Q:Bool→Hp→Prop)(b:Bool)(s':Shared):Prop:=∃H',Inv X pins σ H' s'∧Q b H'
def AP(X:Cx)(pins:Qxq)(σ:St)(Q:List V→Hp→Prop)(us:Qxz)(s':Shared):Prop:=∃vs H',Inv X pins σ H' s'∧Vals vs us∧Q vs H'
def SP(X:Cx)(pins:Qxq)(D:Ends)(f:Flow)(s':Shared):Prop :=
 match f with
 |.next=>∃σ' H',Inv X pins σ' H' s'∧D.nx σ' H'
 |.brk=>∃σ' H',Inv X pins σ' H' s'∧D.bk σ' H'
 |.cont=>∃σ' H',Inv X pins σ' H' s'∧D.ct σ' H'
 |.ret u=>∃v σ' H',Inv X pins σ' H' s'∧RelV v u∧D.rt v H'
def PE(X:Cx)(e:Expr)(t:TE):Prop :=
 ∀(pins:Qxq) (s:Shared) (σ:St) (H:Hp) (Q:VK),Inv X pins σ H s→t σ H Q→wpAny (model X.prog X.w) X.A (eval e X.env) (EP X pins σ Q) X.xe s
def PT(X:Cx)(e:Expr)(t:TT):Prop :=
 ∀(pins:Qxq) (s:Shared) (σ:St) (H:Hp) (Q:Bool→Hp→Prop),Inv X pins σ H s→t σ H Q→wpAny (model X.prog X.w) X.A (isTrue e X.env (eval e X.env)) (TP X pins σ Q) X.xe s
def PW(X:Cx)(e:Expr)(t:TT):Prop :=
 ∀(whole:Sem Value) (pins:Qxq) (s:Shared) (σ:St) (H:Hp) (Q:Bool→Hp→Prop),Inv X pins σ H s→t σ H Q→wpAny (model X.prog X.w) X.A (isTrue e X.env whole) (TP X pins σ Q) X.xe s
def PW.pt{X:Cx}{e:Expr}{t:TT}(h:PW X e t):PT X e t:=h _
def PA(X:Cx)(es:Qjq)(t:TA):Prop :=
 ∀(pos:Pos) (pins:Qxq) (s:Shared) (σ:St) (H:Hp) (Q:List V→Hp→Prop),Inv X pins σ H s→t σ H Q→wpAny (model X.prog X.w) X.A (spliced (backTo pos (starEach es X.env))) (AP X pins σ Q) X.xe s
def PS(X:Cx)(st:Stmt)(t:TS):Prop :=
 ∀(pins:Qxq) (s:Shared) (σ:St) (H:Hp) (D:Ends),Inv X pins σ H s→t D σ H→wpAny (model X.prog X.w) X.A (exec st X.env) (SP X pins D) X.xe s
def hU(X:Cx)(st:List Stmt)(t:TS):Prop :=
 ∀(pins:Qxq) (s:Shared) (σ:St) (H:Hp) (D:Ends),Inv X pins σ H s→t D σ H→wpAny (model X.prog X.w) X.A (execs st X.env) (SP X pins D) X.xe s
def aK{α:Type}{t:Sem α}{Q Q':α→Shared→Prop}{M:Model}{A:Around}{E:Qzx}{s:Shared}(h:wpAny M A t Q E s)(hQ:∀a s,Q a s→Q' a s):wpAny M A t Q' E s:=gb h hQ λ_ _ x=>x
section
variable {X:Cx}
abbrev iw(i:Nat):TE:=λσ H Q=>∃v,σ[i]?=some (some v)∧Q v H
abbrev tC(v:V):TE:=λ_ H Q=>Q v H
def Mw {i:Nat}{x:Str}{pos:Pos} (hN:X.N[i]?=some x) (hv:Av X.env.scope x) (hd:(x==("__debug__" : Str))=false:=by decide) (iZ:(x==("__classdict__" : Str))=false:=by decide):PE X (.Name x pos) (iw i):=by
 intro pins s σ H Q I h;let⟨v,e,h⟩:=h;let⟨m,hn,hl⟩:=I.loc;let⟨u,r,l⟩:=hl i x v hN e hv;let fin:EP X pins σ Q u s:=⟨v,H,I,r,h⟩;rcases l with⟨hk,hm⟩|⟨hk,c,hc,N6⟩
 ·exact wpAny_Name (wpAny_loadName_local I.ok.kind hk hn hm fin) hd
 ·rcases hk with hk|hk
  ·exact wpAny_Name (wpAny_loadName_cell I.ok.kind hk hc N6 fin) hd
  ·exact wpAny_Name (wpAny_loadName_free I.ok.kind hk hc N6 fin iZ) hd
def Y0{i j pos}:PE X (.Constant (.int i) j pos) (tC (.int i)):=λ_ _ _ H _ I h=>wpAny_Constant_int ⟨.int i,H,I.tok _,⟨_,rfl⟩,h⟩
def abE{b j pos}:PE X (.Constant (.bool b) j pos) (tC (.bl b)):=λ_ _ _ H _ I h=>Constant_bool ⟨.bl b,H,I,rfl,h⟩
def Y1{j pos}:PE X (.Constant .none j pos) (tC .non):=λ_ _ _ H _ I h=>Constant_none ⟨.non,H,I,rfl,h⟩
def Y2{x j pos}:PE X (.Constant (.str x) j pos) (tC (.str x)):=λ_ _ _ H _ I h=>Calls.Constant_str ⟨.str x,H,I.tok _,⟨_,rfl⟩,h⟩
def Gl(X:Cx)(x:Str):Prop:=X.env.kindOf x=some .globalImplicit
def W2{E:Qzx}{pins:Qxq}{s:Shared}{σ:St}{H:Hp}{x:Str}{u:Value}{pos:Pos}{Q:Qzx}(I:Inv X pins σ H s)(hg:Gl X x)(hm:X.mg x=some u)(h:Q u s)
  (hd:(x==("__debug__" : Str))=false:=by decide):wpAny (model X.prog X.w) X.A (eval (.Name x pos) X.env) Q E s :=
 Calls.Name_function_global I.ok.kind hg (Calls.loadGlobal_global (by rw[I.ok.glob];exact I.mod.glob.keeps I.bk) hm h) hd
def lg{E:Qzx}{pins:Qxq}{s:Shared}{σ:St}{H:Hp}{x:Str}{u:Value}{pos:Pos}{Q:Qzx}(I:Inv X pins σ H s)(hg:Gl X x)(hm:X.mg x=none)(hv:bootBuiltins x=some u)(h:Q u s)
  (hn:x ≠ "__name__" := by decide) (hd:(x==("__debug__" : Str))=false:=by decide):wpAny (model X.prog X.w) X.A (eval (.Name x pos) X.env) Q E s:=by
 let⟨mb,h1,h2⟩:=I.mod.blt;exact Calls.Name_function_global I.ok.kind hg (Calls.loadGlobal_builtin (by rw[I.ok.glob];exact I.mod.glob.keeps I.bk) hm (by rw[I.ok.blt];exact h1.keeps I.bk) ((h2 x hn).trans hv) h) hd
def W3 {x:Str}{v:V}{u:Value}{pos:Pos} (hg:Gl X x) (hm:X.mg x=none) (hv:bootBuiltins x=some u) (r:RelV v u) (hn:x ≠ "__name__" := by decide) (hd:(x==("__debug__" : Str))=false:=by decide):PE X (.Name x pos) (tC v) :=
 λ_ _ _ H _ I h=>lg I hg hm hv ⟨v,H,I,r,h⟩ hn hd
variable {a b:Expr}{ta tb:TE}{pos:Pos}
def PC(X:Cx)(op:CmpOp)(a b:Expr)(t:TE):Prop :=
 ∀(pins:Qxq) (s:Shared) (σ:St) (H:Hp) (Q:VK),Inv X pins σ H s→t σ H Q →
  wpAny (model X.prog X.w) X.A (eval a X.env) (λv s₁=>wpAny (model X.prog X.w) X.A (eval b X.env) (λu s₂=>wpAny (model X.prog X.w) X.A (compareOp op v u) (EP X pins σ Q) X.xe s₂) X.xe s₁) X.xe s
abbrev tB(t:TE):TT:=λσ H Q=>t σ H λx H1=>∃c,x=.bl c∧Q c H1
def yG{op:CmpOp}{t:TE}(h:PC X op a b t)(h1:behindInMarks op b=false:=by first|exact aep _ (by decide) (by decide)|rfl):PT X (.Compare a [op] [b] pos) (tB t):=by
 intro pins s σ H Q I hw;refine wpAny_isTrue_Compare1 (aK (h pins s σ H _ I hw) λv s1 h1=>aK h1 λu s2 h2=>aK h2 λc s3 ⟨x,H1,I1,r1,q1⟩=>?_) h1;let⟨d,rfl,q⟩:=q1;cases r1;exact nZ ⟨H1,I1,q⟩
variable {tA Az:TT}{rest:Qjq}
abbrev O4(t u:TT):TT:=λσ H Q=>t σ H λc H1=>if c=true then u σ H1 Q else Q false H1
abbrev QD(t u:TT):TT:=λσ H Q=>t σ H λc H1=>if c=true then Q true H1 else u σ H1 Q
abbrev O6(t:TT):TT:=λσ H Q=>t σ H λc H1=>Q (!c) H1
def W4(ha:PT X a tA):PW X (.BoolOp .And [a] pos) tA:=by
 intro wh pins s σ H Q I h;refine isTrue_and (aK (ha pins s σ H Q I h) λc s1 e=>?_);cases c with
 |true=>exact isTrue_and_nil e
 |false=>exact e
def Y3(ha:PT X a tA):PW X (.BoolOp .Or [a] pos) tA:=by
 intro wh pins s σ H Q I h;refine isTrue_or (aK (ha pins s σ H Q I h) λc s1 e=>?_);cases c with
 |false=>exact isTrue_or_nil e
 |true=>exact e
def Y4(ha:PT X a tA)(hb:PW X (.BoolOp .And (b::rest) pos) Az):PW X (.BoolOp .And (a::b::rest) pos) (O4 tA Az):=by
 intro wh pins s σ H Q I h;refine isTrue_and (aK (ha pins s σ H _ I h) λc s1 ⟨H1,I1,q1⟩=>?_);cases c with
 |true=>exact hb wh pins s1 σ H1 Q I1 q1
 |false=>exact⟨H1,I1,q1⟩
def abF(ha:PT X a tA)(hb:PW X (.BoolOp .Or (b::rest) pos) Az):PW X (.BoolOp .Or (a::b::rest) pos) (QD tA Az):=by
 intro wh pins s σ H Q I h;refine isTrue_or (aK (ha pins s σ H _ I h) λc s1 ⟨H1,I1,q1⟩=>?_);cases c with
 |true=>exact⟨H1,I1,q1⟩
 |false=>exact hb wh pins s1 σ H1 Q I1 q1
def Y5(ha:PT X a tA):PT X (.UnaryOp .Not a pos) (O6 tA):=by
 intro pins s σ H Q I h;exact isTrue_not (ha pins s σ H (λc H1=>Q (!c) H1) I h)
abbrev N7(ta tb:TE):TE:=λσ H Q=>ta σ H λx H1=>∃c,x=.bl c∧if c=true then tb σ H1 Q else Q (.bl false) H1
abbrev O7(ta tb:TE):TE:=λσ H Q=>ta σ H λx H1=>∃c,x=.bl c∧if c=true then Q (.bl true) H1 else tb σ H1 Q
abbrev N8(ta:TE):TE:=λσ H Q=>ta σ H λx H1=>∃c,x=.bl c∧Q (.bl (!c)) H1
def Mx{op}{t:TE}(h:PE X a t):PE X (.BoolOp op [a] pos) t:=λpins s σ H Q I hw=>BoolOp_one (h pins s σ H Q I hw)
def Y6(ha:PE X a ta)(hb:PE X (.BoolOp .And (b::rest) pos) tb):PE X (.BoolOp .And (a::b::rest) pos) (N7 ta tb):=by
 intro pins s σ H Q I h;refine BoolOp_and (aK (ha pins s σ H _ I h) λv s1 ⟨x,H1,I1,r1,q1⟩=>?_);let⟨c,rfl,q1⟩:=q1;cases r1;refine nZ ?_;cases c with
 |true=>exact hb pins s1 σ H1 Q I1 q1
 |false=>exact⟨.bl false,H1,I1,rfl,q1⟩
def abG(ha:PE X a ta)(hb:PE X (.BoolOp .Or (b::rest) pos) tb):PE X (.BoolOp .Or (a::b::rest) pos) (O7 ta tb):=by
 intro pins s σ H Q I h;refine BoolOp_or (aK (ha pins s σ H _ I h) λv s1 ⟨x,H1,I1,r1,q1⟩=>?_);let⟨c,rfl,q1⟩:=q1;cases r1;refine nZ ?_;cases c with
 |false=>exact hb pins s1 σ H1 Q I1 q1
 |true=>exact⟨.bl true,H1,I1,rfl,q1⟩
def Y7(ha:PE X a ta):PE X (.UnaryOp .Not a pos) (N8 ta):=by
 intro pins s σ H Q I h;refine UnaryOp_ (aK (ha pins s σ H _ I h) λv s1 ⟨x,H1,I1,r1,q1⟩=>?_);let⟨c,rfl,q1⟩:=q1;cases r1;exact not_of (nZ ⟨.bl (!c),H1,I1,rfl,q1⟩)
abbrev QF(t:TT)(ta tb:TE):TE:=λσ H Q=>t σ H λc H1=>if c=true then ta σ H1 Q else tb σ H1 Q
def Vv{c:Expr}(hc:PT X c tA)(ha:PE X a ta)(hb:PE X b tb):PE X (.IfExp c a b pos) (QF tA ta tb):=by
 intro pins s σ H Q I h;refine wpAny_IfExp (aK (hc pins s σ H _ I h) λd s1 ⟨H1,I1,q1⟩=>?_);cases d with
 |true=>exact ha pins s1 σ H1 Q I1 q1
 |false=>exact hb pins s1 σ H1 Q I1 q1
end
def b0(K:Qzk)(H:Hp)(a:Addr)(xs:List V):Prop :=
 Rd H a (.lst xs) ∨
  ∃(o:Obj) (its:Array Value) (n:Nat),K.lookup a=some o∧o.cls=.type "list" ∧ o.dict=none∧o.data=.seq its n∧its.size≤sizeLine∧Vals xs its.toList
def bC(K:Qzk)(H:Hp)(a:Addr)(xs:List V):Prop :=
 H a=some (.tup xs) ∨
  ∃(o:Obj) (its:Array Value) (n:Nat),K.lookup a=some o∧o.cls=.type "tuple" ∧ o.dict=none∧o.data=.seq its n∧its.size≤sizeLine∧4≤its.size∧Vals xs its.toList
def bC.own{K:Qzk}{H:Hp}{a:Addr}{xs:List V}(h:bC K H a xs)(hl:xs.length<4):H a=some (.tup xs):=by
 rcases h with h|⟨_,its,_,_,_,_,_,_,h4,r⟩
 ·exact h
 ·have:=r.length;simp only[Array.length_toList]at this;omega
abbrev rH:Value→Option V
 |.none=>some .non
 |.bool b=>some (.bl b)
 |.int i _=>some (.int i)
 |.str x _=>some (.str x)
 |.bytes b _=>some (.hG b)
 |.float b _=>some (.vU b)
 |.ref a=>some (.ref a)
 |.type n=>some (.ty n)
 |_=>none
def RelV.abs{x:V}{u:Value}(r:RelV x u):rH u=some x:=by
 cases x with
 |non=>cases r;rfl
 |bl _=>cases r;rfl
 |int _=>let⟨t,rfl⟩:=r;rfl
 |str _=>let⟨t,rfl⟩:=r;rfl
 |hG _=>let⟨t,rfl⟩:=r;rfl
 |vU _=>let⟨t,rfl⟩:=r;rfl
 |ref _=>cases r;rfl
 |ty _=>cases r;rfl
def RelV.inj{x y:V}{u:Value}(r:RelV x u)(q:RelV y u):x=y:=eC (r.abs.symm.trans q.abs)
theorem Vals.inj:∀{xs ys:List V}{us:Qxz},Vals xs us→Vals ys us→xs=ys
 |_,_,_,.nil,.nil=>rfl
 |_,_,_,.cons r t,.cons r' t'=>by rw[r.inj r',Vals.inj t t']
section
variable {X:Cx}{pins:Qxq}{σ:St}{H:Hp}{s:Shared}{a:Addr}{xs ys:List V}
def bC.of{K:Qzk}(h:H a=some (.tup xs)):bC K H a xs:=.inl h
def Inv.list(I:Inv X pins σ H s)(h:b0 X.K H a xs):∃its:Qxz,Vals xs its∧PlainL s.heap a its.toArray∧xs.length≤sizeLine:=by
 rcases h with h|⟨o,its,n,hk,hc,hd,hs,hz,r⟩
 ·let⟨z,its,n,r,e⟩:=h.ok I.aH;exact⟨its,r,⟨_,n,e,rfl,rfl,rfl⟩,z⟩
 ·refine⟨its.toList,r,⟨o,n,I.iE a o hk,hc,hd,by simpa using hs⟩,?_⟩;let e:=r.length;simp only[Array.length_toList]at e;omega
def Inv.tuple(I:Inv X pins σ H s)(h:bC X.K H a xs):∃its:Qxz,Vals xs its∧IsTup s.heap a its.toArray∧xs.length≤sizeLine:=by
 rcases h with h|⟨o,its,n,hk,hc,_,hs,hz,_,r⟩
 ·let⟨z,its,r,p⟩:=I.aH _ _ h;exact⟨its,r,p.tup,z⟩
 ·refine⟨its.toList,r,⟨o,I.iE a o hk,hc,n,by simpa using hs⟩,?_⟩;let e:=r.length;simp only[Array.length_toList]at e;omega
def Inv.ye(I:Inv X pins σ H s)(h:b0 X.K H a xs)(h':b0 X.K H a ys):xs=ys:=by
 let⟨its,r,⟨o,n,e,_,_,d⟩,_⟩:=I.list h;let⟨its',r',⟨o',n',e',_,_,d'⟩,_⟩:=I.list h';rw[e]at e';cases e';rw[d]at d';injection d' with d1 _;have:its=its':=by simpa using de Array.toList d1
 subst this;exact r.inj r'
def Inv.CT(I:Inv X pins σ H s)(h:bC X.K H a xs)(h':bC X.K H a ys):xs=ys:=by
 let⟨its,r,⟨o,e,_,n,d⟩,_⟩:=I.tuple h;let⟨its',r',⟨o',e',_,n',d'⟩,_⟩:=I.tuple h';rw[e]at e';cases e';rw[d]at d';injection d' with d1 _;have:its=its':=by simpa using de Array.toList d1
 subst this;exact r.inj r'
end
noncomputable abbrev Cx.wish(X:Cx)(E:Qzx):Cx:={ X with xe:=E }
@[reducible]def Cx.qg(X:Cx):Cx:=X.wish λ_ _=>False
theorem Cx.Ok.wish{X:Cx}(ok:X.Ok)(E:Qzx):(X.wish E).Ok :=
 ⟨ok.mod,ok.kind,ok.glob,ok.blt,ok.above,ok.inj,ok.has,ok.vW,ok.hd,ok.frames,ok.Aw,ok.Qz,ok.bs,ok.mU,ok.vm,ok.zu,ok.jX,ok.sF⟩
def Cx.Ok.nA{X:Cx}{E:Qzx}(ok:(X.wish E).Ok):X.Ok :=
 ⟨ok.mod,ok.kind,ok.glob,ok.blt,ok.above,ok.inj,ok.has,ok.vW,ok.hd,ok.frames,ok.Aw,ok.Qz,ok.bs,ok.mU,ok.vm,ok.zu,ok.jX,ok.sF⟩
section
variable {X:Cx}{pins:Qxq}{σ:St}{H:Hp}{s:Shared}{E:Qzx}
theorem Inv.wish(I:Inv X pins σ H s)(E:Qzx):Inv (X.wish E) pins σ H s:=⟨I.ok.wish E,I.os,I.bare,I.base,I.loc,I.cell,I.free,I.iO,I.pin,I.aH,I.len⟩
theorem Inv.nA(I:Inv (X.wish E) pins σ H s):Inv X pins σ H s:=⟨I.ok.nA,I.os,I.bare,I.base,I.loc,I.cell,I.free,I.iO,I.pin,I.aH,I.len⟩
theorem SP.nA{D:Ends}{f:Flow}{s':Shared}(h:SP (X.wish E) pins D f s'):SP X pins D f s':=by
 cases f with
 |next=>let⟨σ',H',I,q⟩:=h;exact⟨σ',H',I.nA,q⟩
 |brk=>let⟨σ',H',I,q⟩:=h;exact⟨σ',H',I.nA,q⟩
 |cont=>let⟨σ',H',I,q⟩:=h;exact⟨σ',H',I.nA,q⟩
 |ret u=>let⟨v,σ',H',I,r,q⟩:=h;exact⟨v,σ',H',I.nA,r,q⟩
theorem hU.qg{st:List Stmt}{t:TS}(h:hU X.qg st t):hU X st t:=λpins s σ H D I hw =>
 gb (h pins s σ H D (I.wish _) hw) (λ_ _ q=>q.nA) λ_ _ z=>False.elim z
end
section
variable {X:Cx}{st:Stmt}{rest:List Stmt}{t u:TS}{e:Expr}{te:TE}{pos:Pos}
abbrev y4:TS:=λD σ H=>D.nx σ H
abbrev nR(t u:TS):TS:=λD σ H=>t { D with nx:=u D } σ H
def W5:hU X [] y4:=λ_ _ σ H _ I h=>z5 ⟨σ,H,I,h⟩
def Vw(h1:PS X st t)(h2:hU X rest u):hU X (st::rest) (nR t u):=by
 intro pins s σ H D I h;refine wpAny_execs_cons (aK (h1 pins s σ H { D with nx:=u D } I h) λf s1 q=>?_);cases f with
 |next =>
  let⟨σ',H',I',q⟩:=q;exact h2 pins s1 σ' H' D I' q
 |ret v=>exact q
 |brk=>exact q
 |cont=>exact q
def W6(h1:PS X st t):hU X [st] t:=by
 intro pins s σ H D I h;refine wpAny_execs_cons (aK (h1 pins s σ H D I h) λf s1 q=>?_);cases f with
 |next=>exact z5 q
 |ret v=>exact q
 |brk=>exact q
 |cont=>exact q
def Inv.quiet{pins:Qxq}{σ:St}{H:Hp}{s:Shared}(I:Inv X pins σ H s):interactive X.env=false:=by simp[interactive,I.ok.kind]
abbrev rq(te:TE):TS:=λD σ H=>te σ H λ_ H1=>D.nx σ H1
def W7(he:PE X e te)(hs:swapsWith e none pos.line X.env=pure false:=by rfl):PS X (.Expr e pos) (rq te):=by
 intro pins s σ H D I h;exact wpAny_Expr_any (aK (he pins s σ H _ I h) λv s1 ⟨x,H1,I1,r1,q1⟩=>⟨σ,H1,I1,q1⟩) I.quiet hs
abbrev rJ(te:TE):TS:=λD σ H=>te σ H D.rt
def Y8(he:PE X e te):PS X (.Return (some e) pos) (rJ te):=by
 intro pins s σ H D I h;exact wpAny_Return_some (aK (he pins s σ H _ I h) λv s1 ⟨x,H1,I1,r1,q1⟩=>⟨x,σ,H1,I1,r1,q1⟩)
abbrev zv(c:TT)(t u:TS):TS:=λD σ H=>c σ H λb H1=>if b=true then t D σ H1 else u D σ H1
def abH{c:Expr}{a b:List Stmt}{tc:TT}(hc:PT X c tc)(ha:hU X a t)(hb:hU X b u):PS X (.If c a b pos) (zv tc t u):=by
 intro pins s σ H D I h;refine wpAny_If (aK (hc pins s σ H _ I h) λd s1 ⟨H1,I1,q1⟩=>?_);cases d with
 |true=>exact ha pins s1 σ H1 D I1 q1
 |false=>exact hb pins s1 σ H1 D I1 q1
end
noncomputable abbrev TG:=V→St→Hp→(St→Hp→Prop)→Prop
noncomputable abbrev i3:=List V→St→Hp→(St→Hp→Prop)→Prop
def PG(X:Cx)(target:Expr)(t:TG):Prop :=
 ∀(pins:Qxq) (s:Shared) (σ:St) (H:Hp) (v:V) (u:Value) (Q:St→Hp→Prop),Inv X pins σ H s→RelV v u→t v σ H Q →
  wpAny (model X.prog X.w) X.A (assign target X.env u) (λ_ s'=>∃σ' H',Inv X pins σ' H' s'∧Q σ' H') X.xe s
def sJ(X:Cx)(ts:Qjq)(t:i3):Prop :=
 ∀(pins:Qxq) (s:Shared) (σ:St) (H:Hp) (vs:List V) (us:Qxz) (Q:St→Hp→Prop),Inv X pins σ H s→Vals vs us→t vs σ H Q →
  wpAny (model X.prog X.w) X.A (assignInOrder ((assignEach ts X.env).map (·.2)) us) (λ_ s'=>∃σ' H',Inv X pins σ' H' s'∧Q σ' H') X.xe s
noncomputable abbrev Ey:=V→V→V→Hp→(Hp→Prop)→Prop
def O8(X:Cx)(t:Ey):Prop :=
 ∀(pins:Qxq) (s:Shared) (σ:St) (H:Hp) (o i v:V) (ov iv u:Value) (Q:Hp→Prop),Inv X pins σ H s→RelV o ov→RelV i iv→RelV v u→t o i v H Q →
  wpAny (model X.prog X.w) X.A (setItem ov iv u) (λ_ s'=>∃H',Inv X pins σ H' s'∧Q H') X.xe s
section
variable {X:Cx}{pos:Pos}
abbrev gW(i:Nat):TG:=λv σ H Q=>Q (σ.set i (some v)) H
def K1{i:Nat}{x:Str}(hN:X.N.Nodup)(hi:X.N[i]?=some x)(hx:Loc X.env.scope x)(hf:X.fn x=true∨X.env.scope.names.lookup x=some .local:=by first|exact .inl rfl|exact .inr rfl|assumption):PG X (.Name x pos) (gW i):=by
 intro pins s σ H v u Q I r h;exact wpAny_assign_Name (J6 I hN hi hx r (λs' I'=>⟨_,H,I',h⟩) hf)
abbrev Ez:i3:=λvs σ H Q=>vs=[]∧Q σ H
abbrev y6(t:TG)(u:i3):i3:=λvs σ H Q=>∃v r,vs=v::r∧t v σ H λσ' H'=>u r σ' H' Q
def W8:sJ X [] Ez:=by
 intro pins s σ H vs us Q I r h;let⟨e,h⟩:=h;subst e;cases r;exact assignInOrder_nil ⟨σ,H,I,h⟩
def Vx{e:Expr}{es:Qjq}{t:TG}{u:i3}(h1:PG X e t)(h2:sJ X es u)
  (hs:(assignEach (e::es) X.env).map (·.2)=assign e X.env::(assignEach es X.env).map (·.2):=by rfl):sJ X (e::es) (y6 t u):=by
 intro pins s σ H vs us Q I r h;let⟨v,vr,e1,h⟩:=h;subst e1;cases r with
 |cons r rr =>
  rw[hs];refine assignInOrder_cons (aK (h1 pins s σ H _ _ _ I r h) λ_ s1 ⟨σ1,H1,I1,q1⟩=>?_);exact h2 pins s1 σ1 H1 _ _ Q I1 rr q1
abbrev EA(K:Qzk)(n:Nat)(t:i3):TG:=λv σ H Q=>∃a xs,v=.ref a∧bC K H a xs∧xs.length=n∧t xs σ H Q
def Y9{es:Qjq}{k:Nat}{t:i3}{n:Nat}(hc:X.calm=true)(h:sJ X es t)
  (hn:(assignEach es X.env).length=n:=by rfl) (fI:(assignEach es X.env).findIdx? (·.1)=none:=by rfl):PG X (.Tuple es k pos) (EA X.K n t):=by
 intro pins s σ H v u Q I r hw;let⟨a,xs,e1,hq,hl,hw⟩:=hw;subst e1;cases r;let⟨its,rv,ht,hz⟩:=I.tuple hq;refine assign_Tuple_tuple (I.ok.hd hc) ht (by simp[hn,←hl,rv.length]) fI λh' hx=>?_;let I1:Inv X pins σ H { s with heap:=h' }:=I.kept (t':=s.toks) λb o e=>hx b o (fH (bZ e)) e;exact h pins _ σ H xs _ Q I1 (by simpa using rv) hw
abbrev O9(to ti:TE)(t:Ey):TG:=λv σ H Q=>to σ H λo H1=>ti σ H1 λi H2=>t o i v H2 λH3=>Q σ H3
def Za{o i:Expr}{to ti:TE}{t:Ey}(ho:PE X o to)(hi:PE X i ti)(hs:O8 X t)
  (ha:∀v,assign (.Subscript o i pos) X.env v=(do
   let ov ←holding [v] (eval o X.env)
   let iv ←holding [v,ov] (eval i X.env)
   standAt pos
   holding [v,ov,iv] (setItem ov iv v)
   release [v,ov,iv] []):=by intro _;rfl):PG X (.Subscript o i pos) (O9 to ti t):=by
 intro pins s σ H v u Q I r h;rw[ha];refine aA (kg (aK (ho pins s σ H _ I h) λov s1 ⟨x,H1,I1,r1,q1⟩=>?_));refine aA (kg (aK (hi pins s1 σ H1 _ I1 q1) λiv s2 ⟨y,H2,I2,r2,q2⟩=>?_));refine aA (z6 (aA (kg (aK (hs pins s2 σ H2 x y v ov iv u _ I2 r1 r2 r q2) λ_ s3 ⟨H3,I3,q3⟩=>?_))));exact wpAny_release ⟨σ,H3,I3,q3⟩
abbrev iy(te:TE)(g:TG):TS:=λD σ H=>te σ H λx H1=>g x σ H1 D.nx
def Zb{tg e:Expr}{te:TE}{g:TG}(he:PE X e te)(hg:PG X tg g)(hs:swapsWithSole [tg] e pos.line X.env=pure false:=by rfl)(hw:swappedStores [tg] e X.env=pure none:=by rfl)
  (h1:(assignEach [tg] X.env).map (·.2)=[assign tg X.env]:=by rfl):PS X (.Assign [tg] e pos) (iy te g):=by
 intro pins s σ H D I h;refine wpAny_Assign_stores (aK (he pins s σ H _ I h) λv s1 ⟨x,H1,I1,r1,q1⟩=>?_) hs hw;rw[h1];exact aK (hg pins s1 σ H1 x v _ I1 r1 q1) λ_ s2 q=>q
def Zc{i:Nat}{x:Str}{e:Expr}{te:TE}{pos':Pos}(hN:X.N.Nodup)(hi:X.N[i]?=some x)(hx:Loc X.env.scope x)(he:PE X e te)(hs:swapsWith e (some (.Name x pos')) pos.line X.env=pure false:=by rfl)(hf:X.fn x=true∨X.env.scope.names.lookup x=some .local:=by first|exact .inl rfl|exact .inr rfl|assumption) :
  PS X (.Assign [.Name x pos'] e pos) (iy te (gW i)):=by
 intro pins s σ H D I h;refine wpAny_Assign_Name (aK (he pins s σ H _ I h) λv s1 ⟨y,H1,I1,r1,q1⟩=>?_) hs;exact J6 I1 hN hi hx r1 (λs2 I2=>⟨_,H1,I2,q1⟩) hf
end
section
variable {X:Cx}{pos:Pos}
abbrev DT(c:TT)(tb:TS):TS:=λD σ H=>∃W:Nat→St→Hp→Prop,(∃m,W m σ H)∧∀m σ H,W m σ H →
 c σ H λb H1=>if b=true then ∃N:St→Hp→Prop,(∀σ' H',N σ' H'→∃m',m'<m∧W m' σ' H')∧tb { D with nx:=N,ct:=N,bk:=D.nx } σ H1 else D.nx σ H1
def Vy{c:Expr}{body:List Stmt}{tc:TT}{tb:TS}(hp:PassesOwn (model X.prog X.w) X.A X.env X.xe)(hc:PT X c tc)(hb:hU X body tb):PS X (.While c body [] pos) (DT tc tb):=by
 intro pins s σ H D I h;let⟨W,⟨m0,w0⟩,turn⟩:=h;refine wpAny_While (codeAny_whileLoop (λn s'=>∃σ' H',Inv X pins σ' H' s'∧W n σ' H') ?_ m0 ⟨σ,H,I,w0⟩);rintro n s1 ⟨σ1,H1,I1,w1⟩;refine pZ hp (aK (hc pins s1 σ1 H1 _ I1 (turn n σ1 H1 w1)) λb s2 ⟨H2,I2,q2⟩=>?_);cases b with
 |true =>
  let⟨N,hN,q2⟩:=q2;rw[if_pos rfl];refine pZ hp (aK (hb pins s2 σ1 H2 _ I2 q2) λf s3 q3=>?_);cases f with
  |next =>
   let⟨σ3,H3,I3,n3⟩:=q3;let⟨m',hm,w3⟩:=hN σ3 H3 n3;exact⟨m',hm,σ3,H3,I3,w3⟩
  |cont =>
   let⟨σ3,H3,I3,n3⟩:=q3;let⟨m',hm,w3⟩:=hN σ3 H3 n3;exact⟨m',hm,σ3,H3,I3,w3⟩
  |brk=>exact q3
  |ret v=>exact q3
 |false =>
  rw[if_neg bx];exact z5 ⟨σ1,H2,I2,q2⟩
end
structure It where
 go:Nat→Hp→Prop
 ku:Nat→Hp→V→Hp→Prop
 stop:Nat→Hp→Prop
def jY(X:Cx)(pins:Qxq)(H:Hp)(b:Addr):Prop :=
 H b=none∧b≠X.env.locals∧b∉X.fs∧(b∈X.ex∨X.s₀.heap.objs.size≤b)∧(∀x c,X.env.cells.lookup x=some c→c≠b)∧∀p∈X.pn++pins,p.1≠b
def Inv.rK{X:Cx}{pins:Qxq}{σ:St}{H H':Hp}{s:Shared}{b:Addr}(I:Inv X pins σ H s)(hb:s.heap.objs.size≤b)(hn:H' b=none):jY X pins H' b:=by
 refine⟨hn,Nat.ne_of_gt (fM I.lt hb),I.adu hb,.inr (dM I.sz hb),λx c e z=>?_,λp hp z=>?_⟩
 ·let⟨v,q⟩:=I.cell x c e;exact absurd (fM q.lt (by rw[z];exact hb)) (kf _)
 ·exact absurd (fM (bZ (I.pin p hp).1) (by rw[z];exact hb)) (kf _)
structure Turn (P:Program)(w:World)(K:Qzk)(tg:Expr)(J:It)(fp:List Addr)(it:Addr)(tn:Nat→Heap→Prop):Prop where
 mem:it∈fp
 obj:∀i h,tn i h→∀b∈fp,∃o,h.get? b=some o∧∀v,o.data≠.cell v
 keep:∀i h h',tn i h→(∀b∈fp,∀o,h.get? b=some o→h'.get? b=some o)→tn i h'
 item:∀(X:Cx),X.prog=P→X.w=w→X.K=K→X.calm=true→∀(i:Nat) (pins:Qxq) (s:Shared) (σ:St) (H:Hp) (E:Qzx),Inv X pins σ H s→(∀b∈fp,jY X pins H b)→tn i s.heap→J.go i H →
  wpAny (model P w) X.A (pyNext (.ref it)) (λr s1=>∃u,r=some u ∧
   wpAny (model P w) X.A (letOwnedTupleGo tg (.ref it) u) (λ_ s2=>∃x H',Inv X pins σ H' s2∧RelV x u∧J.ku i H x H'∧tn (i+1) s2.heap∧∀b∈fp,H' b=none) E s1) E s
 done:∀(X:Cx),X.prog=P→X.w=w→X.K=K→X.calm=true→∀(i:Nat) (pins:Qxq) (s:Shared) (σ:St) (H:Hp) (E:Qzx),Inv X pins σ H s→(∀b∈fp,jY X pins H b)→tn i s.heap→J.stop i H →
  wpAny (model P w) X.A (pyNext (.ref it)) (λr s1=>r=none∧Inv X pins σ H s1) E s
 self:∀(A:Around) (i:Nat) (s:Shared) (Q:Qzx) (E:Qzx),tn i s.heap→Q (.ref it) s→wpAny (model P w) A (pyIter (.ref it)) Q E s
noncomputable abbrev TI:=St→Hp→(It→Hp→Prop)→Prop
def QG(X:Cx)(pins:Qxq)(σ:St)(tg:Expr)(R:It→Hp→Prop)(AA:Value)(s2:Shared):Prop :=
 ∃(it:Addr) (fp:List Addr) (tn:Nat→Heap→Prop) (J:It) (H':Hp),AA=.ref it∧Inv X pins σ H' s2∧Turn X.prog X.w X.K tg J fp it tn∧tn 0 s2.heap∧(∀b∈fp,jY X pins H' b)∧R J H'
def PI(X:Cx)(tg iter:Expr)(wi:TI):Prop :=
 ∀(pins:Qxq) (s:Shared) (σ:St) (H:Hp) (R:It→Hp→Prop),Inv X pins σ H s→wi σ H R →
  wpAny (model X.prog X.w) X.A (eval iter X.env) (λv s1=>wpAny (model X.prog X.w) X.A (pyIter v) (QG X pins σ tg R) X.xe s1) X.xe s
def uZ{M:Model}{A:Around}{E:Qzx}{s:Shared}{tg:Expr}{it:Addr}{u:Value}{o:Obj}{n:String}{vs:Array Value}{Q:Unit→Shared→Prop}(ho:s.heap.get? it=some o)(hc:o.cls=.type n)(hd:o.data=.fields vs)
    (hn:["enumerate", "zip", "dict_itemiterator", "dict_reverseitemiterator", "odict_iterator", "itertools.zip_longest", "itertools.pairwise"].contains n=false) (hQ:Q () s):wpAny M A (letOwnedTupleGo tg (.ref it) u) Q E s:=by
  unfold letOwnedTupleGo;cases tg<;>first
    |exact aO hQ
    | (cases u<;>first
        |exact aO hQ
        | (refine aA (wpAny_load ho ?_)
           rw[hc,hd];show wpAny M A (if (["enumerate", "zip", "dict_itemiterator", "dict_reverseitemiterator", "odict_iterator", "itertools.zip_longest", "itertools.pairwise"].contains n&&vs[0]?==some (rawInt _))=true then _ else _) Q E s;rw[if_neg (by intro h;rw[hn,Bool.false_and]at h;cases h)];exact aO hQ))
abbrev Gd(K:Qzk)(a:Addr):It :=
 ⟨λi H=>∃xs x,b0 K H a xs∧xs[i]?=some x,λi H x H'=>H'=H∧∀xs,b0 K H a xs→xs[i]?=some x,λi H=>∃xs,b0 K H a xs∧xs.length≤i⟩
abbrev Ge(K:Qzk)(a:Addr):It :=
 ⟨λi H=>∃xs x,bC K H a xs∧xs[i]?=some x,λi H x H'=>H'=H∧∀xs,bC K H a xs→xs[i]?=some x,λi H=>∃xs,bC K H a xs∧xs.length≤i⟩
abbrev vZ(lo:Int)(n:Nat):It:=⟨λi _=>i<n,λi H x H'=>H'=H∧x=.int (lo+i),λi _=>n≤i⟩
def UL{P:Program}{w:World}{K:Qzk}{tg:Expr}(a it:Addr):Turn P w K tg (Gd K a) [it] it (λi h=>h.IsListIter it a i) where
 mem:=by simp
 obj:=λi h st b hb=>by
  let e:b=it:=by simpa using hb
  subst e;let⟨o,e,c,d⟩:=st;exact⟨o,e,λv z=>by rw[d]at z;cases z⟩
 keep:=λi h h' st k=>st.at λo e=>k it (by simp) o e
 item:=by
  intro X hP hw hK hc i pins s σ H E I hf st hg;subst hP hw hK;let⟨xs,x,hq,hx⟩:=hg;let⟨its,rv,p,hz⟩:=I.list hq;let⟨u,hu,ru⟩:=rv.get hx;let⟨f0,f1,f2,f3,f4,f5⟩:=hf it (by simp);refine wpAny_pyNext_list_item st p.isList (x:=u) (by simpa using hu) λh' fO sb=>?_;let I1:Inv X pins σ H { s with heap:=h' }:=I.turned (t':=s.toks) (λb o hb e=>(sb.2 b hb).trans e) f0 f1 f3 f4 f5;let⟨o,e,c,d⟩:=id fO;exact⟨u,rfl,uZ (s:={ s with heap:=h' }) e c d (by decide) ⟨x,H,I1,ru,⟨rfl,λys hy=>by rw[I.ye hy hq];exact hx⟩,fO,λb hb=>(hf b hb).1⟩⟩
 done:=by
  intro X hP hw hK hc i pins s σ H E I hf st hg;subst hP hw hK;let⟨xs,hq,hx⟩:=hg;let⟨its,rv,p,hz⟩:=I.list hq;let⟨f0,f1,f2,f3,f4,f5⟩:=hf it (by simp);let hl:=rv.length;exact wpAny_pyNext_list_end (I.ok.hd hc) st p.isList (by simp;omega) λh' eb=>⟨rfl,I.turned (t':=s.toks) (λb o hb e=>eb b o hb e) f0 f1 f3 f4 f5⟩
 self:=λ_ _ _ _ _ st h=>wpAny_pyIter_listiter st h
def Uk{P:Program}{w:World}{K:Qzk}{tg:Expr}(a it:Addr):Turn P w K tg (Ge K a) [it] it (λi h=>h.IsTupleIter it a i) where
 mem:=by simp
 obj:=λi h st b hb=>by
  let e:b=it:=by simpa using hb
  subst e;let⟨o,e,c,d⟩:=st;exact⟨o,e,λv z=>by rw[d]at z;cases z⟩
 keep:=λi h h' st k=>st.at λo e=>k it (by simp) o e
 item:=by
  intro X hP hw hK hc i pins s σ H E I hf st hg;subst hP hw hK;let⟨xs,x,hq,hx⟩:=hg;let⟨its,rv,p,hz⟩:=I.tuple hq;let⟨u,hu,ru⟩:=rv.get hx;let⟨f0,f1,f2,f3,f4,f5⟩:=hf it (by simp);refine wpAny_pyNext_tuple_item st (show s.heap.IsTuple a its.toArray from p) (x:=u) (by simpa using hu) λh' fO sb=>?_;let I1:Inv X pins σ H { s with heap:=h' }:=I.turned (t':=s.toks) (λb o hb e=>(sb.2 b hb).trans e) f0 f1 f3 f4 f5;let⟨o,e,c,d⟩:=id fO;exact⟨u,rfl,uZ (s:={ s with heap:=h' }) e c d (by decide) ⟨x,H,I1,ru,⟨rfl,λys hy=>by rw[I.CT hy hq];exact hx⟩,fO,λb hb=>(hf b hb).1⟩⟩
 done:=by
  intro X hP hw hK hc i pins s σ H E I hf st hg;subst hP hw hK;let⟨xs,hq,hx⟩:=hg;let⟨its,rv,p,hz⟩:=I.tuple hq;let⟨f0,f1,f2,f3,f4,f5⟩:=hf it (by simp);let hl:=rv.length;exact wpAny_pyNext_tuple_end (I.ok.hd hc) st (show s.heap.IsTuple a its.toArray from p) (by simp;omega) λh' eb=>⟨rfl,I.turned (t':=s.toks) (λb o hb e=>eb b o hb e) f0 f1 f3 f4 f5⟩
 self:=λ_ _ _ _ _ st h=>wpAny_pyIter_tupleiter st h
def Ul{P:Program}{w:World}{K:Qzk}{tg:Expr}(it:Addr)(lo:Int)(n:Nat):Turn P w K tg (vZ lo n) [it] it (λi h=>IsRangeIter h it (lo+(i:Nat)*1) ((n:Int)-(i:Nat)) 1) where
 mem:=by simp
 obj:=λi h st b hb=>by
  let e:b=it:=by simpa using hb
  subst e;exact⟨_,st,λv z=>by
   let z':Data.fields _=Data.cell v:=z;cases z'⟩
 keep:=λi h h' st k=>k it (by simp) _ st
 item:=by
  intro X hP hw hK hc i pins s σ H E I hf st hg;subst hP hw hK;let⟨f0,f1,f2,f3,f4,f5⟩:=hf it (by simp);let W:=Walks.range (prog:=X.prog) (w:=X.w) (I.ok.hd hc) it lo 1 n;refine W.item i s _ _ hg st λv h' tk hv fO kk=>?_;let⟨t,rfl⟩:=hv;let I1:Inv X pins σ H { s with heap:=h',toks:=tk }:=I.turned (λb o hb e=>kk b o (by simpa using hb) e) f0 f1 f3 f4 f5;refine⟨_,rfl,uZ (s:={ s with heap:=h',toks:=tk }) (n := "range_iterator") fO rfl rfl (by decide) ⟨.int (lo+i),H,I1,⟨t,?_⟩,⟨rfl,rfl⟩,fO,λb hb=>(hf b hb).1⟩⟩;rw[Int.mul_one]
 done:=by
  intro X hP hw hK hc i pins s σ H E I hf st hg;subst hP hw hK;let⟨f0,f1,f2,f3,f4,f5⟩:=hf it (by simp);exact wpAny_pyNext_range_end (I.ok.hd hc) st (by have:n≤i:=hg;omega) λh' eb=>⟨rfl,I.turned (t':=s.toks) (λb o hb e=>eb b o hb e) f0 f1 f3 f4 f5⟩
 self:=λ_ _ _ _ _ st h=>wpAny_pyIter_rangeiter st h
section
variable {X:Cx}{tg:Expr}
def Eb(K:Qzk)(tl:TE):TI:=λσ H R=>tl σ H λx H1=>∃a,x=.ref a∧(∃xs,b0 K H1 a xs)∧R (Gd K a) H1
def EB(K:Qzk)(tl:TE):TI:=λσ H R=>tl σ H λx H1=>∃a,x=.ref a∧(∃xs,bC K H1 a xs)∧R (Ge K a) H1
def W9{l:Expr}{tl:TE}(hl:PE X l tl):PI X tg l (Eb X.K tl):=by
 intro pins s σ H R I h;refine aK (hl pins s σ H _ I h) λv s1 ⟨x,H1,I1,r1,q1⟩=>?_;let⟨a,e,⟨xs,hq⟩,q⟩:=q1;subst e;cases r1;let⟨its,rv,p,hz⟩:=I1.list hq;refine wpAny_pyIter_list p.isList ?_;refine⟨s1.heap.objs.size,[s1.heap.objs.size],_,_,H1,rfl,I1.kept (t':=s1.toks) λb o e=>cG _ e,UL a _,⟨_,gD _ rfl,rfl,rfl⟩,λb hb=>?_,q⟩;let e:b=s1.heap.objs.size:=by simpa using hb
 subst e;exact I1.rK (aW _) (I1.aH.fresh (aW _))
def Zd{l:Expr}{tl:TE}(hl:PE X l tl):PI X tg l (EB X.K tl):=by
 intro pins s σ H R I h;refine aK (hl pins s σ H _ I h) λv s1 ⟨x,H1,I1,r1,q1⟩=>?_;let⟨a,e,⟨xs,hq⟩,q⟩:=q1;subst e;cases r1;let⟨its,rv,p,hz⟩:=I1.tuple hq;refine wpAny_pyIter_tuple (show s1.heap.IsTuple a its.toArray from p) ?_;refine⟨s1.heap.objs.size,[s1.heap.objs.size],_,_,H1,rfl,I1.kept (t':=s1.toks) λb o e=>cG _ e,Uk a _,⟨_,gD _ rfl,rfl,rfl⟩,λb hb=>?_,q⟩;let e:b=s1.heap.objs.size:=by simpa using hb
 subst e;exact I1.rK (aW _) (I1.aH.fresh (aW _))
def J7{pins:Qxq}{σ:St}{H:Hp}{s:Shared}{R:It→Hp→Prop}{E:Qzx}{lo hi:Int}{t u v:Tok}{tk:Nat}(I:Inv X pins σ H s)(h1:-(2^62)≤lo)(h2:lo<2^62)(h3:-(2^62)≤hi)(h4:hi<2^62)
  (q:R (vZ lo (hi-lo).toNat) H):wpAny (model X.prog X.w) X.A (pyIter (.ref s.heap.objs.size)) (QG X pins σ tg R) E { s with heap:=s.heap.push { cls:=.type "range",data:=.fields #[.int lo t,.int hi u,.int 1 v] },toks:=tk }:=by
 refine wpAny_pyIter_range (IsRange.new ..) (small_one h1 h2 h3 h4) ?_;let I1:Inv X pins σ H { s with heap:=s.heap.push { cls:=.type "range",data:=.fields #[.int lo t,.int hi u,.int 1 v] },toks:=tk }:=I.kept λb o e=>cG _ e;refine⟨(s.heap.push { cls:=.type "range",data:=.fields #[.int lo t,.int hi u,.int 1 v] }).objs.size,[(s.heap.push { cls:=.type "range",data:=.fields #[.int lo t,.int hi u,.int 1 v] }).objs.size],_,_,H,rfl,
  I1.kept (t':=tk) λb o e=>cG _ e,Ul _ lo (hi-lo).toNat,?_,λb hb=>?_,q⟩
 ·let e1:lo+((0:Nat):Int)*1=lo:=by simp
  let e2:(((hi-lo).toNat:Nat):Int)-((0:Nat):Int)=Builtin.Range.rangeSize lo hi 1:=by rw[rangeSize_one];split<;>omega
  show IsRangeIter _ _ (lo+((0:Nat):Int)*1) ((((hi-lo).toNat:Nat):Int)-((0:Nat):Int)) 1;rw[e1,e2];exact gD _ rfl
 ·let e:b=(s.heap.push { cls:=.type "range",data:=.fields #[.int lo t,.int hi u,.int 1 v] }).objs.size:=by simpa using hb
  subst e;exact I1.rK (aW _) (I1.aH.fresh (aW _))
def N9(ta:TA):TI:=λσ H R=>ta σ H λvs H1=>∃j:Int,vs=[.int j]∧-(2^62)≤j∧j<2^62∧R (vZ 0 j.toNat) H1
def Oa(ta:TA):TI:=λσ H R=>ta σ H λvs H1=>∃i j:Int,vs=[.int i,.int j]∧(-(2^62)≤i∧i<2^62∧-(2^62)≤j∧j<2^62)∧R (vZ i (j-i).toNat) H1
def UM {a:Expr}{ta:TA}{p pos:Pos} (hg:Gl X "range") (hm:X.mg "range" = none) (ha:PA X [a] ta) (hs:starEach [a] X.env=[(false,eval a X.env)]:=by rfl):PI X tg (.Call (.Name "range" p) [a] [] pos) (N9 ta):=by
 intro pins s σ H R I h;refine Call_ (lg I hg hm boot_range (p6 (aK (ha pos pins s σ H _ I h) λus s1 ⟨vs,H1,I1,r1,q1⟩=>?_) hs rfl));let⟨j,e,q1,q2,q⟩:=q1;subst e;cases r1 with
 |cons r rr =>
  cases rr;let⟨t,rfl⟩:=r;exact call_range_1 (J7 I1 (by omega) (by omega) q1 q2 (by simpa using q))
def UN {a b:Expr}{ta:TA}{p pos:Pos} (hg:Gl X "range") (hm:X.mg "range" = none) (ha:PA X [a,b] ta) (hs:starEach [a,b] X.env=[(false,eval a X.env),(false,eval b X.env)]:=by rfl) (ot:starEach [b] X.env=[(false,eval b X.env)]:=by rfl) :
  PI X tg (.Call (.Name "range" p) [a,b] [] pos) (Oa ta):=by
 intro pins s σ H R I h;refine Call_ (lg I hg hm boot_range (p6 (aK (ha pos pins s σ H _ I h) λus s1 ⟨vs,H1,I1,r1,q1⟩=>?_) (by rw[hs,ot]) (by rw[ot];rfl)));let⟨i,j,e,⟨q1,q2,q3,q4⟩,q⟩:=q1;subst e;cases r1 with
 |cons r rr =>
  cases rr with
  |cons r' rr =>
   cases rr;let⟨t,rfl⟩:=r;let⟨t',rfl⟩:=r';exact call_range_2 (J7 I1 q1 q2 q3 q4 q)
abbrev pF(wi:TI)(g:TG)(tb:TS):TS:=λD σ H=>wi σ H λJ H1=>∃W:Nat→Nat→St→Hp→Prop,(∃m,W 0 m σ H1)∧∀i m σ H,W i m σ H →
 (J.stop i H∧D.nx σ H)∨(J.go i H∧∃N:St→Hp→Prop,(∀σ' H',N σ' H'→∃m',m'<m∧W (i+1) m' σ' H')∧∀x H',J.ku i H x H'→g x σ H' λσ2 H2=>tb { D with nx:=N,ct:=N,bk:=D.nx } σ2 H2)
abbrev uL(fp:List Addr)(h:Heap):Qxq:=fp.filterMap λb=>(h.get? b).map λo=>(b,o)
def x5{fp:List Addr}{h:Heap}{b:Addr}{o:Obj}(hb:b∈fp)(e:h.get? b=some o):(b,o)∈uL fp h:=FN.mpr ⟨b,hb,by rw[e];rfl⟩
def UO{fp:List Addr}{h:Heap}{p:Addr×Obj}(hp:p∈uL fp h):p.1∈fp∧h.get? p.1=some p.2:=by
 let⟨b,hb,e⟩:=FN.mp hp;cases q:h.get? b with
 |none=>rw[q]at e;cases e
 |some o =>
  rw[q]at e;let e':(b,o)=p:=eC e;subst e';exact⟨hb,q⟩
def Inv.pinned{pins:Qxq}{σ:St}{H:Hp}{s:Shared}{fp:List Addr}(I:Inv X pins σ H s)(hf:∀b∈fp,jY X pins H b)(ho:∀b∈fp,∃o,s.heap.get? b=some o∧∀v,o.data≠.cell v):Inv X (pins++uL fp s.heap) σ H s :=
 I.K0 λp hp=>(iD.mp hp).elim (λz=>I.pin p (jD _ z)) λz=>by
  let⟨hb,e⟩:=UO z;let⟨f0,f1,f2,_⟩:=hf p.1 hb;let⟨o,e',d⟩:=ho p.1 hb;rw[e]at e';cases e';exact⟨e,f0,f1,f2,d⟩
def Inv.yf{pins pl:Qxq}{σ:St}{H:Hp}{s:Shared}(I:Inv X (pins++pl) σ H s):Inv X pins σ H s:=I.K0 λp hp=>I.pin p (jD _ (jA _ hp))
def Ze{iter:Expr}{body:List Stmt}{wi:TI}{g:TG}{tb:TS}{pos:Pos}(hp:PassesOwn (model X.prog X.w) X.A X.env X.xe)(hc:X.calm=true)(hi:PI X tg iter wi)(hg:PG X tg g)(hb:hU X body tb)
  (hs:∀x,foldedSetIterable iter X.env x=pure x:=by intro _;rfl):PS X (.For tg iter body [] pos) (pF wi g tb):=by
 intro pins s σ H D I h;refine wpAny_For (aK (hi pins s σ H _ I h) λv s1 h1=>aK h1 λAA s2 h2=>?_) hs;let⟨it,fp,tn,J,H2,e,I2,T,bD,f2,W,⟨m0,w0⟩,turn⟩:=h2;subst e;let stat:∀{H':Hp},(∀b∈fp,H' b=none)→∀b∈fp,jY X pins H' b:=λhn b hb=>⟨hn b hb,(f2 b hb).2⟩;refine codeAny_forLoop_any (λn s'=>∃i σ' H',Inv X pins σ' H' s'∧tn i s'.heap∧(∀b∈fp,H' b=none)∧W i n σ' H') ?_ m0 ⟨0,σ,H2,I2,bD,λb hb=>(f2 b hb).1,w0⟩;rintro n s3 ⟨i,σ3,H3,I3,bG,v3,w3⟩;rcases turn i n σ3 H3 w3 with⟨stop,qn⟩|⟨go,N,hN,step⟩
 ·refine pZ hp (aK (T.done X rfl rfl rfl hc i pins s3 σ3 H3 X.xe I3 (stat v3) bG stop) λr s4 ⟨hr,I4⟩=>?_);subst hr;exact z5 ⟨σ3,H3,I4,qn⟩
 ·refine pZ hp (aK (T.item X rfl rfl rfl hc i pins s3 σ3 H3 X.xe I3 (stat v3) bG go) λr s4 ⟨u,hr,h4⟩=>?_);subst hr;refine pZ hp (aK h4 λ_ s5 ⟨x,H5,I5,r5,y5,fP,Gf⟩=>?_);let Gg:=I5.pinned (stat Gf) (T.obj _ _ fP);refine pZ hp (aK (hg _ s5 σ3 H5 x u _ Gg r5 (step x H5 y5)) λ_ s6 ⟨σ6,H6,I6,q6⟩=>?_);refine pZ hp (aK (hb _ s6 σ6 H6 _ I6 q6) λf s7 q7=>?_);let again:∀{σ7:St}{H7:Hp},Inv X (pins++uL fp s5.heap) σ7 H7 s7→N σ7 H7→∃m,m<n∧∃i σ' H',Inv X pins σ' H' s7∧tn i s7.heap∧(∀b∈fp,H' b=none)∧W i m σ' H':=λ{σ7 H7} I7 n7=>by
   let⟨m',hm,w7⟩:=hN σ7 H7 n7;refine⟨m',hm,i+1,σ7,H7,I7.yf,T.keep _ _ _ fP λb hb o e=>(I7.pin (b,o) (jD _ (jD _ (x5 hb e)))).1,λb hb=>?_,w7⟩;let⟨o,e,d⟩:=T.obj _ _ fP b hb;exact(I7.pin (b,o) (jD _ (jD _ (x5 hb e)))).2.1
  cases f with
  |next=>let⟨σ7,H7,I7,n7⟩:=q7;exact again I7 n7
  |cont=>let⟨σ7,H7,I7,n7⟩:=q7;exact again I7 n7
  |brk=>let⟨σ7,H7,I7,q7⟩:=q7;exact⟨σ7,H7,I7.yf,q7⟩
  |ret v=>let⟨x7,σ7,H7,I7,r7,q7⟩:=q7;exact⟨x7,σ7,H7,I7.yf,r7,q7⟩
end
noncomputable abbrev R2:=V→V→Hp→VK→Prop
def bO(X:Cx)(f:Value→Value→Sem Value)(r:R2):Prop :=
 ∀(pins:Qxq) (s:Shared) (σ:St) (H:Hp) (x y:V) (v u:Value) (Q:VK),Inv X pins σ H s→RelV x v→RelV y u→r x y H Q →
  wpAny (model X.prog X.w) X.A (f v u) (EP X pins σ Q) X.xe s
def v5(X:Cx)(f:Value→Sem Value)(r:V→Hp→VK→Prop):Prop :=
 ∀(pins:Qxq) (s:Shared) (σ:St) (H:Hp) (x:V) (v:Value) (Q:VK),Inv X pins σ H s→RelV x v→r x H Q →
  wpAny (model X.prog X.w) X.A (f v) (EP X pins σ Q) X.xe s
def iP(X:Cx)(f:Value)(r:List V→Hp→VK→Prop):Prop :=
 ∀(pins:Qxq) (s:Shared) (σ:St) (H:Hp) (xs:List V) (us:Qxz) (Q:VK),Inv X pins σ H s→Vals xs us→r xs H Q →
  wpAny (model X.prog X.w) X.A (call f us) (EP X pins σ Q) X.xe s
def adx(X:Cx)(r:V→Hp→(Bool→Hp→Prop)→Prop):Prop :=
 ∀(pins:Qxq) (s:Shared) (σ:St) (H:Hp) (x:V) (v:Value) (Q:Bool→Hp→Prop),Inv X pins σ H s→RelV x v→r x H Q →
  wpAny (model X.prog X.w) X.A (truthy v) (TP X pins σ Q) X.xe s
abbrev ou(r:R2)(ta tb:TE):TE:=λσ H Q=>ta σ H λx H1=>tb σ H1 λy H2=>r x y H2 Q
abbrev QH(r:V→Hp→VK→Prop)(ta:TE):TE:=λσ H Q=>ta σ H λx H1=>r x H1 Q
abbrev rI(C:Int→Int→Prop)(g:Int→Int→V):R2:=λx y H Q=>∃i j,x=.int i∧y=.int j∧C i j∧Q (g i j) H
abbrev fQ(g:Int→Int→V):R2:=λx y H Q=>∃i j,x=.int i∧y=.int j∧Q (g i j) H
def rU(g:Int→V):V→Hp→VK→Prop:=λx H Q=>∃i,x=.int i∧Q (g i) H
section
variable {X:Cx}{a b c:Expr}{ta tb tc:TE}{pos:Pos}
def EC(ha:PE X a ta)(hb:PE X b tb){pins:Qxq}{s:Shared}{σ:St}{H:Hp}{R:V→V→Hp→Prop}(I:Inv X pins σ H s)
  (h:ta σ H λx H1=>tb σ H1 λy H2=>R x y H2) {Q:Qzx}{f:Value→Value→Sem Value}
  (hf:∀v u s2 x y H2,Inv X pins σ H2 s2→RelV x v→RelV y u→R x y H2→wpAny (model X.prog X.w) X.A (f v u) Q X.xe s2) :
  wpAny (model X.prog X.w) X.A (eval a X.env) (λv s₁=>wpAny (model X.prog X.w) X.A (eval b X.env) (λu s₂=>wpAny (model X.prog X.w) X.A (f v u) Q X.xe s₂) X.xe s₁) X.xe s:=by
 refine aK (ha pins s σ H _ I h) λv s1 ⟨x,H1,I1,r1,q1⟩=>?_;refine aK (hb pins s1 σ H1 _ I1 q1) λu s2 ⟨y,H2,I2,r2,q2⟩=>?_;exact hf v u s2 x y H2 I2 r1 r2 q2
def abI{op:Operator}{r:R2}(ho:bO X (binaryOp op) r)(ha:PE X a ta)(hb:PE X b tb):PE X (.BinOp a op b pos) (ou r ta tb):=by
 intro pins s σ H Q I h;exact wpAny_BinOp (EC ha hb I h λv u s2 x y H2 I2 rx ry q=>ho pins s2 σ H2 x y v u Q I2 rx ry q)
def abJ{op:UnaryOp}{r:V→Hp→VK→Prop}(ho:v5 X (unaryOp op) r)(ha:PE X a ta):PE X (.UnaryOp op a pos) (QH r ta):=by
 intro pins s σ H Q I h;exact UnaryOp_ (aK (ha pins s σ H _ I h) λv s1 ⟨x,H1,I1,r1,q1⟩=>ho pins s1 σ H1 x v Q I1 r1 q1)
def sM{f:Value→Value→Sem Value}{C:Int→Int→Prop}{g:Int→Int→Int}
  (rule:∀(i j:Int) (t u:Tok) (s:Shared) (Q:Qzx) (E:Qzx),C i j→Q (.int (g i j) s.toks) { s with toks:=s.toks+1 }→wpAny (model X.prog X.w) X.A (f (.int i t) (.int j u)) Q E s) :
  bO X f (rI C λi j=>.int (g i j)):=by
 intro pins s σ H x y v u Q I rx ry h;let⟨i,j,rfl,rfl,hc,q⟩:=h;let⟨t,rfl⟩:=rx;let⟨t',rfl⟩:=ry;exact rule i j t t' s _ _ hc ⟨.int (g i j),H,I.tok _,⟨_,rfl⟩,q⟩
def zx{f:Value→Value→Sem Value}{g:Int→Int→Int}
  (rule:∀(i j:Int) (t u:Tok) (s:Shared) (Q:Qzx) (E:Qzx),Q (.int (g i j) s.toks) { s with toks:=s.toks+1 }→wpAny (model X.prog X.w) X.A (f (.int i t) (.int j u)) Q E s) :
  bO X f (fQ λi j=>.int (g i j)):=by
 intro pins s σ H x y v u Q I rx ry h;let⟨i,j,rfl,rfl,q⟩:=h;let⟨t,rfl⟩:=rx;let⟨t',rfl⟩:=ry;exact rule i j t t' s _ _ ⟨.int (g i j),H,I.tok _,⟨_,rfl⟩,q⟩
def ED{f:Value→Value→Sem Value}{g:Int→Int→Bool}
  (rule:∀(i j:Int) (t u:Tok) (s:Shared) (Q:Qzx) (E:Qzx),Q (.bool (g i j)) s→wpAny (model X.prog X.w) X.A (f (.int i t) (.int j u)) Q E s) :
  bO X f (fQ λi j=>.bl (g i j)):=by
 intro pins s σ H x y v u Q I rx ry h;let⟨i,j,rfl,rfl,q⟩:=h;let⟨t,rfl⟩:=rx;let⟨t',rfl⟩:=ry;exact rule i j t t' s _ _ ⟨.bl (g i j),H,I,rfl,q⟩
def zy(i j:Int):Prop:=0≤j∧j≤1000000∧i.natAbs<2^64
def vn(i j:Int):Prop:=(-(2^64)<i∧i<2^64)∨(-(2^64)<j∧j<2^64)
def vn.ok{i j:Int}(h:vn i j):IntMulOk i j:=by
 rcases h with⟨h1,h2⟩|⟨h1,h2⟩
 ·exact .of_left (intBits_le_64 h1 h2)
 ·exact .of_right (intBits_le_64 h1 h2)
def Um(k:Nat):(0:Int)≤2^k:=by
 rw[two_pow_cast];exact z7 _
def Zf:bO X (binaryOp .Add) (fQ λi j=>.int (i+j)):=zx λ_ _ _ _ _ _ _ q=>add_int q
def Zg:bO X (binaryOp .Sub) (fQ λi j=>.int (i-j)):=zx λ_ _ _ _ _ _ _ q=>sub_int q
def Zh:bO X (binaryOp .Mult) (rI vn λi j=>.int (i*j)):=sM λ_ _ _ _ _ _ _ hc q=>mul_int q hc.ok
def Zi:bO X (binaryOp .Mod) (rI (λ_ j=>0<j) λi j=>.int (i%j)):=sM λi j _ _ _ _ _ hc q=>by
 let h1:(0:Int)<j:=hc;exact mod_int' (by omega) (by rw[Int.fmod_eq_emod_of_nonneg i (by omega)];exact q)
def Zj:bO X (binaryOp .Pow) (rI zy λi j=>.int (i^j.toNat)):=sM λ_ _ _ _ _ _ _ hc q=>pow_int_small hc.1 hc.2.1 hc.2.2 q
def Zk:bO X (binaryOp .LShift) (rI zy λi j=>.int (i*2^j.toNat)):=sM λ_ _ _ _ _ _ _ hc q=>lshift_int_small hc.1 hc.2.1 hc.2.2 q
def Zm:bO X (binaryOp .RShift) (rI (λ_ j=>0≤j) λi j=>.int (i/2^j.toNat)):=sM λi j _ _ _ _ _ hc q =>
 rshift_int hc (by rw[Qq i (Um _)];exact q)
def Zn:bO X (binaryOp .BitAnd) (fQ λi j=>.int (Builtin.bitAnd i j)):=zx λ_ _ _ _ _ _ _ q=>and_int q
def abK:bO X (binaryOp .BitOr) (fQ λi j=>.int (Builtin.bitOr i j)):=zx λ_ _ _ _ _ _ _ q=>or_int q
def QI{f:Value→Sem Value}{g:Int→Int}
  (rule:∀(i:Int) (t:Tok) (s:Shared) (Q:Qzx) (E:Qzx),Q (.int (g i) s.toks) { s with toks:=s.toks+1 }→wpAny (model X.prog X.w) X.A (f (.int i t)) Q E s) :
  v5 X f (rU λi=>.int (g i)):=by
 intro pins s σ H x v Q I rx h;let⟨i,rfl,q⟩:=h;let⟨t,rfl⟩:=rx;exact rule i t s _ _ ⟨.int (g i),H,I.tok _,⟨_,rfl⟩,q⟩
def Zo:v5 X (unaryOp .USub) (rU λi=>.int (-i)):=QI λ_ _ _ _ _ q=>neg_int q
def Zq:v5 X (unaryOp .Invert) (rU λi=>.int (Builtin.bitNot i)):=QI λ_ _ _ _ _ q=>invert_int q
end
abbrev zA:V→V→Bool
 |.non,.non=>true|.non,.int _=>true|.int _,.non=>true|.non,.bl _=>true|.bl _,.non=>true|.non,.str _=>true|.str _,.non=>true
 |.int _,.int _=>true|.bl _,.bl _=>true|.str _,.str _=>true|.hG _,.hG _=>true
 |.int _,.str _=>true|.str _,.int _=>true|.bl _,.str _=>true|.str _,.bl _=>true
 |_,_=>false
def QJ:R2:=λx y H Q=>zA x y=true∧Q (.bl (decide (x=y))) H
def QK:R2:=λx y H Q=>zA x y=true∧Q (.bl (!decide (x=y))) H
def K2{i j:Int}:decide (V.int i=V.int j)=(i==j):=by
 rw[kh];simp
def Mz{i j:Bool}:decide (V.bl i=V.bl j)=(i==j):=by
 rw[kh];simp
def K3{i j:Str}:decide (V.str i=V.str j)=(i==j):=by
 rw[kh];simp
def K4{i j:Array UInt8}:decide (V.hG i=V.hG j)=(i.toList==j.toList):=by
 rw[kh];cases i;cases j;simp
section
variable {X:Cx}{a b c:Expr}{ta tb tc:TE}{pos:Pos}
def cJ{pins:Qxq}{σ:St}{H:Hp}{s:Shared}{Q:VK}{k k':Bool}(I:Inv X pins σ H s)(q:Q (.bl k) H)(e:k=k'):EP X pins σ Q (.bool k') s:=by
 subst e;exact⟨.bl k,H,I,rfl,q⟩
def abL:bO X (compareOp .Eq) QJ:=by
 intro pins s σ H x y v u Q I rx ry h;let⟨hs,q⟩:=h;cases x with
 |non =>
  cases rx;cases y with
  |non=>cases ry;exact PySem.EqNone.eq_none_none (cJ I q (by simp))
  |bl j=>cases ry;exact PySem.EqNone.eq_none_bool (cJ I q (by simp))
  |int j=>let⟨t',rfl⟩:=ry;exact PySem.EqNone.eq_none_int (cJ I q (by simp))
  |str j=>let⟨t',rfl⟩:=ry;exact PySem.EqNone.eq_none_str (cJ I q (by simp))
  |_=>exact absurd (show false=true from hs) bx
 |bl i =>
  cases rx;cases y with
  |non=>cases ry;exact PySem.EqNone.eq_bool_none (cJ I q (by simp))
  |bl j=>cases ry;exact eq_bool (cJ I q Mz)
  |str j=>let⟨t',rfl⟩:=ry;exact PySem.EqMixed.eq_bool_str (cJ I q (by simp))
  |_=>exact absurd (show false=true from hs) bx
 |int i =>
  let⟨t,rfl⟩:=rx;cases y with
  |non=>cases ry;exact PySem.EqNone.eq_int_none (cJ I q (by simp))
  |int j=>let⟨t',rfl⟩:=ry;exact eq_int (cJ I q K2)
  |str j=>let⟨t',rfl⟩:=ry;exact PySem.EqMixed.eq_int_str (cJ I q (by simp))
  |_=>exact absurd (show false=true from hs) bx
 |str i =>
  let⟨t,rfl⟩:=rx;cases y with
  |non=>cases ry;exact PySem.EqNone.eq_str_none (cJ I q (by simp))
  |bl j=>cases ry;exact PySem.EqMixed.eq_str_bool (cJ I q (by simp))
  |int j=>let⟨t',rfl⟩:=ry;exact PySem.EqMixed.eq_str_int (cJ I q (by simp))
  |str j=>let⟨t',rfl⟩:=ry;exact eq_str (cJ I q K3)
  |_=>exact absurd (show false=true from hs) bx
 |hG i =>
  let⟨t,rfl⟩:=rx;cases y with
  |hG j=>let⟨t',rfl⟩:=ry;exact PySem.W.eq_bytes (cJ I q K4)
  |_=>exact absurd (show false=true from hs) bx
 |_=>cases y<;>exact absurd (show false=true from hs) bx
def abM:bO X (compareOp .NotEq) QK:=by
 intro pins s σ H x y v u Q I rx ry h;let⟨hs,q⟩:=h;cases x with
 |non =>
  cases rx;cases y with
  |non=>cases ry;exact PySem.EqNone.ne_none_none (cJ I q (by simp))
  |bl j=>cases ry;exact PySem.EqNone.ne_none_bool (cJ I q (by simp))
  |int j=>let⟨t',rfl⟩:=ry;exact PySem.EqNone.ne_none_int (cJ I q (by simp))
  |str j=>let⟨t',rfl⟩:=ry;exact PySem.EqNone.ne_none_str (cJ I q (by simp))
  |_=>exact absurd (show false=true from hs) bx
 |bl i =>
  cases rx;cases y with
  |non=>cases ry;exact PySem.EqNone.ne_bool_none (cJ I q (by simp))
  |bl j=>cases ry;exact ne_bool (cJ I q (de not Mz))
  |str j=>let⟨t',rfl⟩:=ry;exact PySem.EqMixed.ne_bool_str (cJ I q (by simp))
  |_=>exact absurd (show false=true from hs) bx
 |int i =>
  let⟨t,rfl⟩:=rx;cases y with
  |non=>cases ry;exact PySem.EqNone.ne_int_none (cJ I q (by simp))
  |int j=>let⟨t',rfl⟩:=ry;exact ne_int (cJ I q (de not K2))
  |str j=>let⟨t',rfl⟩:=ry;exact PySem.EqMixed.ne_int_str (cJ I q (by simp))
  |_=>exact absurd (show false=true from hs) bx
 |str i =>
  let⟨t,rfl⟩:=rx;cases y with
  |non=>cases ry;exact PySem.EqNone.ne_str_none (cJ I q (by simp))
  |bl j=>cases ry;exact PySem.EqMixed.ne_str_bool (cJ I q (by simp))
  |int j=>let⟨t',rfl⟩:=ry;exact PySem.EqMixed.ne_str_int (cJ I q (by simp))
  |str j=>let⟨t',rfl⟩:=ry;exact ne_str (cJ I q (de not K3))
  |_=>exact absurd (show false=true from hs) bx
 |hG i =>
  let⟨t,rfl⟩:=rx;cases y with
  |hG j=>let⟨t',rfl⟩:=ry;exact PySem.W.ne_bytes (cJ I q (de not K4))
  |_=>exact absurd (show false=true from hs) bx
 |_=>cases y<;>exact absurd (show false=true from hs) bx
def abN:bO X (compareOp .Lt) (fQ λi j=>.bl (decide (i<j))):=ED λ_ _ _ _ _ _ _ q=>lt_int q
def abO:bO X (compareOp .LtE) (fQ λi j=>.bl (decide (i≤j))):=ED λ_ _ _ _ _ _ _ q=>le_int q
def abP:bO X (compareOp .Gt) (fQ λi j=>.bl (decide (j<i))):=ED λ_ _ _ _ _ _ _ q=>gt_int q
def Zr:bO X (compareOp .Is) (λx y H Q=>y=.non∧Q (.bl (decide (x=.non))) H):=by
 intro pins s σ H x y v u Q I rx ry h;let⟨rfl,q⟩:=h;cases ry;refine is_none_gen (cJ I q ?_);cases x<;>first
  | (cases rx;rfl)
  | (let⟨t,rfl⟩:=rx;rfl)
def Xa:bO X (compareOp .IsNot) (λx y H Q=>y=.non∧Q (.bl (!decide (x=.non))) H):=by
 intro pins s σ H x y v u Q I rx ry h;let⟨rfl,q⟩:=h;cases ry;refine isnot_none_gen (cJ I q ?_);cases x<;>first
  | (cases rx;rfl)
  | (let⟨t,rfl⟩:=rx;rfl)
def Xb{op:CmpOp}{r:R2}(ho:bO X (compareOp op) r)(ha:PE X a ta)(hb:PE X b tb)(hm:behindInMarks op b=false):PE X (.Compare a [op] [b] pos) (ou r ta tb):=by
 intro pins s σ H Q I h;exact wpAny_Compare1 (EC ha hb I h λv u s2 x y H2 I2 rx ry q=>ho pins s2 σ H2 x y v u Q I2 rx ry q) hm
abbrev Ec(t:TE):TT:=λσ H Q=>t σ H λx H'=>∃k,x=.bl k∧Q k H'
def Xc{op:CmpOp}{r:R2}(ho:bO X (compareOp op) r)(ha:PE X a ta)(hb:PE X b tb)(hm:behindInMarks op b=false):PT X (.Compare a [op] [b] pos) (Ec (ou r ta tb)):=by
 intro pins s σ H Q I h;refine wpAny_isTrue_Compare1 (aK (ha pins s σ H _ I h) λv s1 ⟨x,H1,I1,r1,q1⟩=>aK (hb pins s1 σ H1 _ I1 q1) λu s2 ⟨y,H2,I2,r2,q2⟩ =>
  aK (ho pins s2 σ H2 x y v u _ I2 r1 r2 q2) λc s3 ⟨z,H3,I3,r3,k,e,q3⟩=>?_) hm
 subst e;cases r3;exact nZ ⟨H3,I3,q3⟩
abbrev MA(r r':R2)(ta tb tc:TE):TE:=λσ H Q=>ta σ H λx H1=>tb σ H1 λy H2=>r x y H2 λz H3=>∃k,z=.bl k ∧
 (if k=true then tc σ H3 λw' H4=>r' y w' H4 Q else Q (.bl false) H3)
def Vz{op op':CmpOp}{r r':R2}(ho:bO X (compareOp op) r)(hJ:bO X (compareOp op') r')(ha:PE X a ta)(hb:PE X b tb)(hc:PE X c tc)
  (hm:lastMarks [op,op'] [b,c]=false:=by with_unfolding_all rfl):PT X (.Compare a [op,op'] [b,c] pos) (Ec (MA r r' ta tb tc)):=by
 intro pins s σ H Q I h;refine isTrue_chain (aK (ha pins s σ H _ I h) λv s1 ⟨x,H1,I1,r1,q1⟩=>test_link (aK (hb pins s1 σ H1 _ I1 q1) λu s2 ⟨y,H2,I2,r2,q2⟩ =>
  aK (ho pins s2 σ H2 x y v u _ I2 r1 r2 q2) λd s3 ⟨z,H3,I3,r3,k,e,q3⟩=>?_)) hm
 subst e;cases r3;refine nZ ?_;cases k with
 |false =>
  let⟨k',e',q'⟩:=q3;cases e';exact ite_ff ⟨H3,I3,q'⟩
 |true =>
  refine ite_tt (test_last (aK (hc pins s3 σ H3 _ I3 q3) λw' s4 ⟨z',H4,I4,r4,q4⟩=>aK (hJ pins s4 σ H4 y z' u w' _ I4 r2 r4 q4) λd' s5 ⟨z2,H5,I5,r5,k2,e2,q5⟩=>?_));subst e2;cases r5;exact nZ ⟨H5,I5,q5⟩
def zB(K:Qzk)(x:V)(H:Hp)(k:Bool):Prop :=
 match x with
 |.non=>k=false
 |.bl b=>k=b
 |.int i=>k=(i != 0)
 |.str y=>y.length≤sizeLine∧k=((y.length:Int) != 0)
 |.hG y=>y.size≤sizeLine∧k=((y.size:Int) != 0)
 |.ref p=>(∃xs,b0 K H p xs∧k=!xs.isEmpty)∨(∃xs,bC K H p xs∧k=!xs.isEmpty)∨∃aj,H p=some (.dK aj)∧k=!aj.isEmpty
 |_=>False
def Up{κ:Type}{aj:List (κ×V)}{vs:List (κ×Value)}(r:KV aj vs):(!vs.isEmpty)=!aj.isEmpty:=by
 cases r<;>rfl
def IQ{xs:List V}{its:Qxz}(r:Vals xs its):(!its.toArray.isEmpty)=!xs.isEmpty:=by
 cases r<;>simp
def qS:(sizeLine:Nat)<2^63:=by rw[p7];decide
def Zt:adx X (λx H Q=>∃k,zB X.K x H k∧Q k H):=by
 intro pins s σ H x v Q I rx h;let⟨k,e,q⟩:=h;let hl:=qS;let hs:sizeLine=16777216:=p7;cases x with
 |non =>
  cases rx;let e':k=false:=e;subst e';exact truthy_none ⟨H,I,q⟩
 |bl b =>
  cases rx;let e':k=b:=e;subst e';exact nZ ⟨H,I,q⟩
 |int i =>
  let⟨t,rfl⟩:=rx;let e':k=(i != 0):=e;subst e';exact PySem.P.truthy_int ⟨H,I,q⟩
 |str y =>
  let⟨t,rfl⟩:=rx;obtain⟨hy,e'⟩:y.length≤sizeLine∧k=((y.length:Int) != 0):=e;subst e';exact PySem.P.truthy_str (by omega) ⟨H,I.tok _,q⟩
 |hG y =>
  let⟨t,rfl⟩:=rx;obtain⟨hy,e'⟩:y.size≤sizeLine∧k=((y.size:Int) != 0):=e;subst e';exact PySem.W.truthy_bytes (by omega) ⟨H,I.tok _,q⟩
 |ref p =>
  cases rx;let e':(∃xs,b0 X.K H p xs∧k=!xs.isEmpty)∨(∃xs,bC X.K H p xs∧k=!xs.isEmpty)∨∃aj,H p=some (.dK aj)∧k=!aj.isEmpty:=e;rcases e' with⟨xs,hx,e'⟩|⟨xs,hx,e'⟩|⟨aj,hx,e'⟩
  ·subst e';let⟨its,r,pl,hz⟩:=I.list hx;let hlen:=r.length;exact wpAny_truthy_list pl.isList (by simp only[List.size_toArray];omega) ⟨H,I.tok _,by rw[IQ r];exact q⟩
  ·subst e';let⟨its,r,pl,hz⟩:=I.tuple hx;let hlen:=r.length;exact truthy_tuple pl (by simp only[List.size_toArray];omega) ⟨H,I.tok _,by rw[IQ r];exact q⟩
  ·subst e';obtain⟨hz,hS,vs,r,m⟩:aj.length≤sizeLine∧(p==sysModules)=false∧∃vs,KV aj vs∧s.heap.DictOf (cN X.prog X.w) p vs:=I.aH p _ hx;let hlen:aj.length=vs.length:=cM r;exact wpAny_truthy_dict hS m (by omega) ⟨H,I.tok _,by rw[Up r];exact q⟩
 |_=>exact(show False from e).elim
def VA(ha:PE X a ta)(he:∀whole,isTrue a X.env whole=(do let v ←whole;standAt a.pos;holding [v] (truthy v))) :
  PT X a (λσ H Q=>ta σ H λx H'=>∃k,zB X.K x H' k∧Q k H'):=by
 intro pins s σ H Q I h;exact isTrue_plain (aK (ha pins s σ H _ I h) λv s1 ⟨x,H1,I1,r1,q1⟩=>Zt pins s1 σ H1 x v Q I1 r1 q1) (he _)
def Uq:bO X (binaryOp .Add) (λx y H Q=>∃i j,x=.str i∧y=.str j∧i.length+j.length≤sizeLine∧Q (.str (i++j)) H):=by
 intro pins s σ H x y v u Q I rx ry h;let⟨i,j,rfl,rfl,hz,q⟩:=h;let⟨t,rfl⟩:=rx;let⟨t',rfl⟩:=ry;exact add_str (λt' tk=>⟨.str (i++j),H,I.tok _,⟨_,rfl⟩,q⟩) hz
def vals1{x:V}{us:Qxz}(r:Vals [x] us):∃u,us=[u]∧RelV x u:=by
 cases r with
 |cons r1 r2=>cases r2;exact⟨_,rfl,r1⟩
def vals2{x y:V}{us:Qxz}(r:Vals [x,y] us):∃u w',us=[u,w']∧RelV x u∧RelV y w':=by
 cases r with
 |cons r1 r2 =>
  cases r2 with
  |cons r3 r4=>cases r4;exact⟨_,_,rfl,r1,r3⟩
def UQ(hc:X.calm=true):iP X (.builtin "max") (λxs H Q=>∃i j,xs=[.int i,.int j]∧Q (.int (if j>i then j else i)) H):=by
 intro pins s σ H xs us Q I r h;let⟨i,j,rfl,q⟩:=h;let⟨u,w',rfl,⟨t,rfl⟩,⟨t',rfl⟩⟩:=vals2 r;refine max_two_ints (I.ok.hd hc) λh' tk k=>⟨_,H,I.kept k,?_,q⟩;by_cases hj:j>i
 ·rw[if_pos hj,if_pos hj];exact⟨_,rfl⟩
 ·rw[if_neg hj,if_neg hj];exact⟨_,rfl⟩
def UR:iP X (.type "int") (λxs H Q=>(∃i,xs=[.int i]∧Q (.int i) H)∨∃k,xs=[.bl k]∧Q (.int (if k then 1 else 0)) H):=by
 intro pins s σ H xs us Q I r h;rcases h with⟨i,rfl,q⟩|⟨k,rfl,q⟩
 ·let⟨u,rfl,t,rfl⟩:=vals1 r;exact call_int_int ⟨.int i,H,I,⟨_,rfl⟩,q⟩
 ·let⟨u,rfl,r1⟩:=vals1 r;cases r1;exact call_int_bool ⟨.int (if k then 1 else 0),H,I.tok _,⟨_,rfl⟩,q⟩
def EE(K:Qzk)(x:V)(H:Hp)(n:Nat):Prop :=
 match x with
 |.str y=>y.length≤sizeLine∧n=y.length
 |.hG y=>y.size≤sizeLine∧n=y.size
 |.ref p=>(∃xs,b0 K H p xs∧n=xs.length)∨∃xs,bC K H p xs∧n=xs.length
 |_=>False
def VB:iP X (.builtin "len") (λxs H Q=>∃x n,xs=[x]∧EE X.K x H n∧Q (.int n) H):=by
 intro pins s σ H xs us Q I r h;let⟨x,n,rfl,e,q⟩:=h;let⟨u,rfl,rx⟩:=vals1 r;let hl:=qS;let hs:sizeLine=16777216:=p7;cases x with
 |str y =>
  let⟨t,rfl⟩:=rx;obtain⟨hy,e'⟩:y.length≤sizeLine∧n=y.length:=e;subst e';exact len_str (by omega) ⟨.int _,H,I.tok _,⟨_,rfl⟩,q⟩
 |hG y =>
  let⟨t,rfl⟩:=rx;obtain⟨hy,e'⟩:y.size≤sizeLine∧n=y.size:=e;subst e';exact PySem.W.len_bytes (by omega) ⟨.int _,H,I.tok _,⟨_,rfl⟩,q⟩
 |ref p =>
  cases rx;let e':(∃xs,b0 X.K H p xs∧n=xs.length)∨∃xs,bC X.K H p xs∧n=xs.length:=e;rcases e' with⟨xs,hx,e'⟩|⟨xs,hx,e'⟩
  ·subst e';let⟨its,r',pl,hz⟩:=I.list hx;let hlen:=r'.length;exact Calls.call_len_list pl.isList (by simp only[List.size_toArray];omega) ⟨.int xs.length,H,I.tok _,⟨_,by simp only[List.size_toArray];rw[hlen]⟩,q⟩
  ·subst e';let⟨its,r',pl,hz⟩:=I.tuple hx;let hlen:=r'.length;exact len_tuple pl (by simp only[List.size_toArray];omega) ⟨.int xs.length,H,I.tok _,⟨_,by simp only[List.size_toArray];rw[hlen]⟩,q⟩
 |_=>exact(show False from e).elim
end
structure aev (h:Heap)(x dx C:Addr)(mA:Str→Option Value):Prop where
 obj:h.get? x=some (PySem.W.instObj C dx)
 ns:h.Ns1 dx mA
 ne:dx≠x
section
variable {prog:Program}{w:World}{A:Around}{E:Qzx}{s:Shared}{K:Qzk}{x dx C f:Addr}{mA:Str→Option Value}{name:Str}{v:Value}
end
def jo.some_of{v:V}{o:Option Value}(r:jo (some v) o):∃u,o=some u∧RelV v u:=by
 cases o with
 |none=>exact(show False from r).elim
 |some u=>exact⟨u,rfl,r⟩
section
variable {P:Program}{w:World}{H H':Hp}{h h':Heap}{a C dx:Addr}{fs fs':List (Str×V)}
end
structure Cls (K:Qzk)(C:Addr):Prop where
 pg:PySem.W.plainGet K C Str.empty=true
 hd:PySem.W.hasDictIn K C=true
 po:PySem.W.plainOver K C=true
 sa:PySem.W.findIn K (.ref C) "__setattr__" = some (some (.builtin "object.__setattr__"))
structure Con (K:Qzk)(C:Addr)(f:Str)(v:V)(u:Value):Prop where
 at_:PySem.W.findIn K (.ref C) f=some (some u)
 rel:RelV v u
 get:PySem.W.specialIn K u "__get__" = some none
 cp:PySem.W.copiedNames.contains f=false
structure Meth (K:Qzk)(C:Addr)(m:Str)(f:Addr):Prop where
 at_:PySem.W.findIn K (.ref C) m=some (some (.ref f))
 fn:PySem.W.isFn K (.ref f)=true
 kp:PySem.W.keepIn K (.ref f)=true
section
variable {X:Cx}{pins:Qxq}{σ:St}{H:Hp}{s:Shared}{a C dx:Addr}{fs:List (Str×V)}{f:Str}{v:V}{A:Around}{E:Qzx}
end
section
variable {X:Cx}{o e value:Expr}{f:Str}{pos pos' ady:Pos}{ta tv:TE}
def EF:V→V→Hp→VK→Prop:=λx y H Q=>∃i j,x=.int i∧y=.int j∧Q (.int (i+j)) H
end
section
variable {X:Cx}{pins:Qxq}{σ:St}{H:Hp}{s:Shared}{A:Around}{E:Qzx}{Q:Qzx}{c:Value}{b:Bool}
inductive jZ (K:Qzk)(H:Hp):V→Value→Prop where
 |non:jZ K H .non (.type "NoneType")
 |bl (x:Bool):jZ K H (.bl x) (.type "bool")
 |int (i:Int):jZ K H (.int i) (.type "int")
 |str (x:Str):jZ K H (.str x) (.type "str")
 |vU (x:UInt64):jZ K H (.vU x) (.type "float")
 |lst {a:Addr}{xs:List V} (e:H a=some (.lst xs)):jZ K H (.ref a) (.type "list")
 |aZ {a:Addr}{o:Obj}{xs:List V} (e:H a=some (.aZ o (.lst xs))):jZ K H (.ref a) (.type "list")
 |tup {a:Addr}{xs:List V} (e:H a=some (.tup xs)):jZ K H (.ref a) (.type "tuple")
 |dK {a:Addr}{aj:List (Key×V)} (e:H a=some (.dK aj)):jZ K H (.ref a) (.type "dict")
 |dT {a:Addr}{aj:List (List Key×V)} (e:H a=some (.dT aj)):jZ K H (.ref a) (.type "dict")
 |ins {a C dx:Addr}{fs:List (Str×V)} (e:H a=some (.ins C dx fs)) (cl:Cls K C) (ha:PySem.W.findIn K (.ref C) "__class__" = some (some (.builtin "object.__class__")))
  (hn:PySem.W.specialIn K (.builtin "object.__class__") "__get__" = some (some (.builtin "getset_descriptor.__get__"))) (htk:PySem.W.takesIn K (.builtin "object.__class__")=some true)
  (hm:PySem.W.mroIn K C (.type "object")=some true):jZ K H (.ref a) (.ref C)
end
structure fh (k:Nat)(A:Around):Prop where
 hd:A.handled=none
 dp:A.depth+3*k+5<recursionLimit
 un:A.units+16*k+200<cLine
def fh.mono{j k:Nat}{A:Around}(r:fh k A)(h:j≤k):fh j A:=⟨r.hd,by have:=r.dp;omega,by have:=r.un;omega⟩
theorem fh.deeper{k:Nat}{A:Around}(r:fh (k+1) A)(env:Env):fh k (A.deeper env) :=
 ⟨r.hd,by have:=r.dp;show A.depth+1+3*k+5<_;omega,by have:=r.un;show A.units+3+16*k+200<_;omega⟩
theorem fh.depth{k:Nat}{A:Around}(r:fh k A):A.depth<recursionLimit:=by have:=r.dp;omega
theorem fh.units{k:Nat}{A:Around}(r:fh k A):A.units+64<cLine:=by have:=r.un;omega
abbrev mI:TA:=λ_ H Q=>Q [] H
abbrev nF(ta:TE)(tr:TA):TA:=λσ H Q=>ta σ H λx H1=>tr σ H1 λxs H2=>Q (x::xs) H2
section
variable {X:Cx}{e:Expr}{es:Qjq}{te:TE}{t:TA}{pos:Pos}
def uM:PA X [] mI:=λ_ _ _ _ H Q I h=>Calls.spliced_nil ⟨[],H,I,.nil,h⟩
def yp(ha:PE X e te)(hr:PA X es t)(hs:starEach (e::es) X.env=(false,eval e X.env)::starEach es X.env:=by rfl):PA X (e::es) (nF te t):=by
 intro pos pins s σ H Q I h;rw[hs];show wpAny _ _ (spliced ((false,eval e X.env)::backTo pos (starEach es X.env))) _ _ s;refine vH (aK (ha pins s σ H _ I h) λu s1 ⟨x,H1,I1,r1,q1⟩=>?_);exact aK (hr pos pins s1 σ H1 _ I1 q1) λus s2 ⟨xs,H2,I2,r2,q2⟩=>⟨x::xs,H2,I2,.cons r1 r2,q2⟩
def EG(t:TA):TE:=λσ H Q=>t σ H λxs H1=>xs.length≤sizeLine∧∀p,H1 p=none→Q (.ref p) (upd H1 p (.tup xs))
def zC(t:TA):TE:=λσ H Q=>t σ H λxs H1=>xs.length≤sizeLine∧∀p,H1 p=none→Q (.ref p) (upd H1 p (.lst xs))
def MB{x1}(h:PA X es t):PE X (.Tuple es x1 pos) (EG t):=by
 intro pins s σ H Q I hq;refine wpAny_Tuple_spliced (aK (h pos pins s σ H _ I hq) λus s1 ⟨xs,H1,I1,r,z,q⟩=>⟨by rw[←r.length];exact z,?_⟩);let hf:H1 s1.heap.objs.size=none:=I1.aH.fresh (aW _);refine⟨.ref s1.heap.objs.size,upd H1 s1.heap.objs.size (.tup xs),I1.laid (t':=s1.toks) (λb u e=>cG _ e) (aW _) ?_,rfl,q _ hf⟩;exact⟨z,us,r,⟨_,gD _ rfl,rfl,rfl,_,rfl⟩⟩
def DU(h:PA X es t):PE X (.List es pos) (zC t):=by
 intro pins s σ H Q I hq;refine wpAny_List_spliced (aK (h pos pins s σ H _ I hq) λus s1 ⟨xs,H1,I1,r,z,q⟩=>⟨by rw[←r.length];exact z,?_⟩);let hf:H1 s1.heap.objs.size=none:=I1.aH.fresh (aW _);refine⟨.ref s1.heap.objs.size,upd H1 s1.heap.objs.size (.lst xs),I1.laid (t':=s1.toks) (λb u e=>cG _ e) (aW _) ?_,rfl,q _ hf⟩;exact⟨z,us,0,r,gD _ rfl⟩
end
noncomputable abbrev Sp:=List V→Hp→VK→XK→Prop
noncomputable abbrev ky:=List Env→Hp→Shared→XK→Qzx
structure zD (P:Program)(w:World)(K:Qzk)(mg:Str→Option Value)(base:Heap)(A:Around)(outer:List Env)(s:Shared)(H:Hp):Prop where
 frames:A.frames=some outer
 mod:Mod K mg base
 bs:∀b o,base.get? b=some o→s.heap.get? b=some o∧H b=none
 mU:base.objs.size≤s.heap.objs.size
 jX:s.heap.FunFrames base outer
 sF:∀b∈jG outer,H b=none
 aH:cX P w H s.heap
 bare:AllBare s.gens
def CE(outer:List Env)(P:Program)(w:World)(H:Hp)(s:Shared)(Q:VK)(u:Value)(s':Shared):Prop :=
 ∃v H',s'.os=s.os∧AllBare s'.gens∧Un (jG outer) [] H H' s.heap s'.heap∧cX P w H' s'.heap∧RelV v u∧Q v H'
def CR(CX:ky)(outer:List Env)(P:Program)(w:World)(H:Hp)(s:Shared)(Q:VK)(E:XK)(r:Result)(s':Shared):Prop :=
 match r with
 |.ok (.ret u)=>CE outer P w H s Q u s'
 |.ok _=>False
 |.error e=>CX outer H s E e s'
structure mK (P:Program)(w:World)(K:Qzk)(mg:Str→Option Value)(base:Heap)(CX:ky)(k:Nat)(f:Addr)(fd:FuncData)(ps:Qjz)(sp:Sp):Prop where
 len:∀vs H Q E,sp vs H Q E→vs.length=ps.length
 run:∀(A:Around) (outer:List Env) (s:Shared) (H:Hp) (args:Args) (us:Qxz) (vs:List V) (Q:VK) (E:XK),fh k A→zD P w K mg base A outer s H→BindsTo s fd args (ps.zip us)→Vals vs us→sp vs H Q E →
  codeAny (model P w) A (.call (.ref f) args) (CR CX outer P w H s Q E) s
section
variable {X:Cx}{pins:Qxq}{σ:St}{H:Hp}{s s':Shared}
def Inv.adz(I:Inv X pins σ H s):zD X.prog X.w X.K X.mg X.base X.A X.stack s H :=
 ⟨I.ok.frames,I.ok.mod,I.bs,dM I.ok.mU I.sz,I.stack,I.KZ,I.aH,I.bare⟩
def Inv.after{Q:VK}{u:Value}(I:Inv X pins σ H s)(h:CE X.stack X.prog X.w H s Q u s'):EP X pins σ Q u s':=by
 let⟨v,H',os,bare,un,aH,r,q⟩:=h;let⟨hh,g,d,t,os'⟩:=s';obtain rfl:os'=s.os:=os;exact⟨v,H',I.call (h':=hh) (g':=g) (d':=d) (t':=t) (ch:=[]) un aH bare (λb z=>absurd z (by simp)),r,q⟩
end
abbrev nG(sp:Sp)(oz:List V)(E:XK)(t:TA):TE:=λσ H Q=>t σ H λvs H1=>sp (vs++oz) H1 Q E
def Binds(K:Qzk)(fd:FuncData)(ps:Qjz)(ds:Qxz):Prop :=
 ∀(s:Shared) (us:Qxz),K.In s.heap→(us++ds).length=ps.length→BindsTo s fd ⟨us,[]⟩ (ps.zip (us++ds))
def Binds.all{K:Qzk}{fd:FuncData}{ps:Qjz}(h:∀us:Qxz,us.length=ps.length→bindArgs fd ⟨us,[]⟩=pure (ps.zip us)):Binds K fd ps []:=λs us _ hl=>by
 rw[sj]at hl ⊢;exact .of_eq (h us hl)
def Passes(CX:ky)(X:Cx)(E:XK):Prop:=∀(pins:Qxq) (σ:St) (H:Hp) (s:Shared) (e:Value) (s':Shared),Inv X pins σ H s→CX X.stack H s E e s'→X.xe e s'
section
variable {X:Cx}{CX:ky}{k:Nat}{f C:Addr}{fd:FuncData}{ps:Qjz}{sp:Sp}{oz:List V}{ds:Qxz}{E:XK}{x m:Str}{p pos apos:Pos}{e o:Expr}{es:Qjq}{ta:TE}{t:TA}
def Zu{pins:Qxq}{σ:St}{H:Hp}{s:Shared}{Q:VK}{us:Qxz}{vs:List V}(F:mK X.prog X.w X.K X.mg X.base CX k f fd ps sp)(hr:fh k X.A)(hb:Binds X.K fd ps ds)(hd:Vals oz ds)(hx:Passes CX X E)
  (I:Inv X pins σ H s) (r:Vals vs us) (h:sp (vs++oz) H Q E):wpAny (model X.prog X.w) X.A (call (.ref f) us) (EP X pins σ Q) X.xe s:=by
 let r2:Vals (vs++oz) (us++ds):=r.append hd;let hl:(us++ds).length=ps.length:=by rw[←r2.length];exact F.len _ _ _ _ h
 refine wpAny_call (codeAny_mono (F.run X.A X.stack s H ⟨us,[]⟩ (us++ds) (vs++oz) Q E hr I.adz (hb s us I.iE hl) r2 h) λr s' hq=>?_);cases r with
 |error e=>exact hx pins σ H s e s' I hq
 |ok fl =>
  cases fl with
  |ret u=>exact I.after hq
  |next=>exact False.elim hq
  |brk=>exact False.elim hq
  |cont=>exact False.elim hq
def Dj(F:mK X.prog X.w X.K X.mg X.base CX k f fd ps sp)(hr:fh k X.A)(hg:Gl X x)(hm:X.mg x=some (.ref f))(hk:PySem.W.keepIn X.K (.ref f)=true)(hb:Binds X.K fd ps ds)(hd:Vals oz ds)(hx:Passes CX X E)
  (ha:PA X (e::es) t) (v7:(x==("__debug__" : Str))=false:=by decide) (he:starEach (e::es) X.env=(false,eval e X.env)::starEach es X.env:=by rfl) (mW:(backTo pos (starEach es X.env)).any (·.1)=false:=by rfl) :
  PE X (.Call (.Name x p) (e::es) [] pos) (nG sp oz E t):=by
 intro pins s σ H Q I h;refine FP (W2 I hg hm ?_ v7);refine PySem.W.callWith_K (h₀:=X.base) I.ok.mod.F9 hk (aK (ha pos pins s σ H _ I h) λus s1 ⟨vs,H1,I1,r,q⟩=>⟨I1.iE,?_⟩) he mW;exact Zu F hr hb hd hx I1 r q
structure Mk (K:Qzk)(C f:Addr):Prop where
 makes:PySem.W.makesIn K C=true
 init:PySem.W.findIn K (.ref C) "__init__" = some (some (.ref f))
 fn:PySem.W.isFn K (.ref f)=true
 kp:PySem.W.keepIn K (.ref C)=true
end
section
variable {X:Cx}{CX:ky}{k:Nat}{f C:Addr}{fd:FuncData}{ps ks:Qjz}{sp:Sp}{E:XK}{x m:Str}{p pos apos aew:Pos}{e o:Expr}{es:Qjq}{kws:List Keyword}{te ta:TE}{t tk:TA}{nm:Option Str}
structure aeq (K:Qzk)(fd:FuncData)(ps ks:Qjz)(g:Qxz→Qxz→Qxz)(gV:List V→List V→List V):Prop where
 to:∀(s:Shared) (us ws:Qxz),K.In s.heap→(g us ws).length=ps.length→BindsTo s fd ⟨us,ks.zip ws⟩ (ps.zip (g us ws))
 rel:∀{vs:List V}{us:Qxz}{zs:List V}{ws:Qxz},Vals vs us→Vals zs ws→Vals (gV vs zs) (g us ws)
variable {g:Qxz→Qxz→Qxz}{gV:List V→List V→List V}
end
structure uD (N P:Qjz)(sc:Scope):Prop where
 kind:sc.kind=.function
 co:sc.isCoroutine=false
 gen:sc.isGenerator=false
 nd:N.Nodup
 pre:N.take P.length=P
 par:∀x∈P,sc.names.lookup x=some .local∨sc.names.lookup x=some .cell
 Zv:∀y∈sc.names,y.2≠.free
theorem Jt{kindOf:Str→Option NameKind}{x:Str}:∀{binds:List (Str×Value)}{m:Str→Option Value},(∀v,(x,v)∉binds)→bindL kindOf binds m x=m x
  |[],_,_=>rfl
  | (n,v)::r,m,h=>by
    unfold bindL;rw[Jt λw hw=>h w (c9 _ hw)];split
    · have:x≠n:=by rintro rfl;exact h v cg
      simp[this]
    · rfl
theorem Ju{kindOf:Str→Option NameKind}{x:Str}:∀{binds:List (Str×Value)}{m:Str→Option Value},(∀v,(x,v)∉binds)→bindC kindOf binds m x=m x
  |[],_,_=>rfl
  | (n,v)::r,m,h=>by
    unfold bindC;rw[Ju λw hw=>h w (c9 _ hw)];split
    · rfl
    · have:x≠n:=by rintro rfl;exact h v cg
      simp[this]
theorem Jv{kindOf:Str→Option NameKind}{x:Str}{v:Value}:∀{P:Qjz}{vs:Qxz}{i:Nat}{m:Str→Option Value},P.Nodup→P[i]?=some x→vs[i]?=some v→kindOf x=some .local →
  bindL kindOf (P.zip vs) m x=some v
 |[],_,_,_,_,h,_,_=>by simp at h
 |_::_,[],_,_,_,_,h,_=>by simp at h
 |p::P,w::vs,0,m,nd,h1,h2,hk=>by
  simp at h1 h2;subst h1;subst h2;show bindL kindOf ((p,w)::P.zip vs) m p=_;unfold bindL;rw[Jt λv hv=>(kj.mp nd).1 (FQ hv).1,if_pos hk];simp
 |p::P,w::vs,i+1,m,nd,h1,h2,hk=>by
  show bindL kindOf ((p,w)::P.zip vs) m x=_;unfold bindL;exact Jv (i:=i) (kj.mp nd).2 (by simpa using h1) (by simpa using h2) hk
theorem Jw{kindOf:Str→Option NameKind}{x:Str}{v:Value}:∀{P:Qjz}{vs:Qxz}{i:Nat}{m:Str→Option Value},P.Nodup→P[i]?=some x→vs[i]?=some v→kindOf x≠some .local →
  bindC kindOf (P.zip vs) m x=some v
 |[],_,_,_,_,h,_,_=>by simp at h
 |_::_,[],_,_,_,_,h,_=>by simp at h
 |p::P,w::vs,0,m,nd,h1,h2,hk=>by
  simp at h1 h2;subst h1;subst h2;show bindC kindOf ((p,w)::P.zip vs) m p=_;unfold bindC;rw[Ju λv hv=>(kj.mp nd).1 (FQ hv).1,if_neg hk];simp
 |p::P,w::vs,i+1,m,nd,h1,h2,hk=>by
  show bindC kindOf ((p,w)::P.zip vs) m x=_;unfold bindC;exact Jw (i:=i) (kj.mp nd).2 (by simpa using h1) (by simpa using h2) hk
abbrev start(N:Qjz)(vs:List V):St:=vs.map some++List.replicate (N.length-vs.length) none
abbrev nS(CX:ky)(P:Program)(w:World)(K:Qzk)(mg:Str→Option Value)(base:Heap)(N:Qjz)(qual:Str)(scope:Scope)(f:Addr)(cd:Value)(A:Around)(outer:List Env)(s:Shared)(H:Hp)(E:XK):Cx where
 prog:=P
 w:=w
 K:=K
 mg:=mg
 base:=base
 A:=A.deeper (envOfC qual scope s.heap.objs.size f cd)
 N:=N
 s₀:=s
 H₀:=H
 env:=envOfC qual scope s.heap.objs.size f cd
 outer:=outer
 stack:=envOfC qual scope s.heap.objs.size f cd::outer
 ex:=[]
 calm:=true
 fn:=λ_=>true
 pn:=[]
 xe:=λe s'=>wpAny (model P w) (A.deeper (envOfC qual scope s.heap.objs.size f cd)) (leaving (envOfC qual scope s.heap.objs.size f cd) e) (λ_ Gh=>CX outer H s E e Gh) (λe' Gh=>CX outer H s E e' Gh) s'
def J8{sc:Scope}{n:Nat}{x:Str}(h:sc.names.lookup x=some .cell):∃c,(cellsFrom n sc.names []).lookup x=some c:=by
 let q:=PySem.W.cellsFrom_some sc.names n [] (.inl h);exact Option.isSome_iff_exists.mp q
def UU{CX:ky}{P:Program}{w:World}{K:Qzk}{mg:Str→Option Value}{base:Heap}{N ps:Qjz}{qual:Str}{scope:Scope}{f:Addr}{cd:Value}{A:Around}{outer:List Env}{s s1:Shared}{H:Hp}{E:XK}{us:Qxz}{vs:List V}
  (S:uD N ps scope) (hd:A.handled=none) (e0:zD P w K mg base A outer s H) (hl:vs.length=ps.length) (r:Vals vs us)
  (x:InCallC s s.heap.objs.size (bindL (envOfC qual scope s.heap.objs.size f cd).kindOf (ps.zip us) λ_=>none) (cellsFrom (s.heap.objs.size+1) scope.names []) (bindC (envOfC qual scope s.heap.objs.size f cd).kindOf (ps.zip us) λ_=>none) s1) :
  Inv (nS CX P w K mg base N qual scope f cd A outer s H E) [] (start N vs) H s1:=by
 let mW:ps.length≤N.length:=by have:=de List.length S.pre;rw[lH]at this;omega
 let⟨h1,tk,rfl,hk⟩:=x.done;let v8:∀b:Addr,b∉(nS CX P w K mg base N qual scope f cd A outer s H E).ex:=λb z=>absurd (show b∈([]:List Addr)from z) (by simp);refine⟨⟨e0.mod,S.kind,rfl,rfl,aW _,λy z c h1 h2=>?_,λy hy=>?_,λy c _ h=>?_,λ_=>hd,Around.frames_deeper e0.frames,.inr ⟨rfl,rfl⟩,λb z=>absurd z (v8 b),e0.bs,e0.mU,λb _ _=>v8 b,λb z=>absurd z (v8 b),e0.jX,e0.sF⟩,
  rfl,e0.bare,Un.kept hk,⟨_,x.toInCall.ns,λi y v h1 h2 h3=>?_⟩,λy c h=>⟨_,x.cell y c h⟩,e0.aH.fresh (aW _),λy c h=>?_,λp hp=>absurd (show p∈([]:Qxq)from hp) (by simp),e0.aH.kept hk,?_⟩
 ·exact name_of_addr x.apart (n5 h1) (n5 h2)
 ·let hy:scope.names.lookup y=some .cell∨scope.names.lookup y=some .free:=hy;rcases hy with hy|hy
  ·exact J8 hy
  ·exact absurd rfl (S.Zv _ (n5 hy))
 ·exact Nat.le_of_lt (x.above y c (n5 h))
 ·let hi:i<vs.length:=by
   unfold start at h2;by_cases hi:i<vs.length
   ·exact hi
   ·rw[List.getElem?_append_right (by simpa using hi)]at h2;rw[vI]at h2;split at h2<;>cases h2
  let ha:vs[i]?=some v:=by
   unfold start at h2;rw[p8 (by simpa using hi),cA]at h2;cases e:vs[i]? with
   |none=>rw[e]at h2;cases h2
   |some a=>rw[e]at h2;cases h2;rfl
  let⟨u,hu,rv⟩:=r.get ha;let hp:ps[i]?=some y:=by
   rw[←S.pre,List.getElem?_take_of_lt (by omega)];exact h1
  let QL:ps.Nodup:=by rw[←S.pre];exact S.nd.sublist (List.take_sublist _ _)
  refine⟨u,rv,?_⟩;rcases S.par y (dO hp)with k|k
  ·exact .inl ⟨k,Jv QL hp hu k⟩
  ·let⟨c,e⟩:=J8 (n:=s.heap.objs.size+1) k;refine .inr ⟨.inl k,c,e,?_⟩;let q:=x.cell y c e;rw[Jw QL hp hu (by show scope.names.lookup y≠_;rw[k];decide)]at q;exact q
 ·exact e0.aH.fresh (Nat.le_of_lt (x.above y c (n5 h)))
 ·unfold start;show _=N.length;rw[fw,eU,z8];omega
def Ob{CX:ky}{P:Program}{w:World}{K:Qzk}{mg:Str→Option Value}{base:Heap}{k:Nat}{f:Addr}{name qual:Str}{params:Arguments}{body:List Stmt}{scope:Scope}{dV kV doc pm bX ct oc:Value}{an od:Qxx}
  {kz:Array (Option Value)}{N ps:Qjz}{sp:Sp} (lk:K.lookup f=some ⟨oc,od,.func (PySem.W.fnOf name qual params body scope dV kV doc pm an bX ct),kz⟩) (iZ:PySem.W.codeIn K bX qual=true) (S:uD N ps scope)
  (len:∀vs H Q E,sp vs H Q E→vs.length=ps.length)
  (u6:∀(A:Around) (outer:List Env) (s:Shared) (H:Hp) (vs:List V) (Q:VK) (E:XK),fh k (A.deeper (envOfC qual scope s.heap.objs.size f bX))→sp vs H Q E →
   ∃t,hU (nS CX P w K mg base N qual scope f bX A outer s H E) body t∧t { nx:=λ_ H'=>Q .non H',rt:=Q } (start N vs) H) :
  mK P w K mg base CX (k+1) f (PySem.W.fnOf name qual params body scope dV kV doc pm an bX ct) ps sp:=by
 refine⟨len,λA outer s H args us vs Q E hr e0 hb r lM=>?_⟩;let hl:=len _ _ _ _ lM;let KX:K.In s.heap:=e0.mod.F9.keeps λb o e=>(e0.bs b o e).1;let lim:s.heap.NoLimit:=e0.mod.nolimit.keeps λb o e=>(e0.bs b o e).1;let abQ:∀y∈ps.zip us,scope.names.lookup y.1=some .local∨(scope.names.lookup y.1=some .cell∧((cellsFrom (s.heap.objs.size+1) scope.names []).lookup y.1).isSome=true):=λ⟨n,v⟩ hy=>by
  rcases S.par n (FQ hy).1 with q|q
  ·exact .inl q
  ·exact .inr ⟨q,PySem.W.cellsFrom_some _ _ _ (.inl q)⟩
 refine codeAny_call_function hr.depth (KX _ _ lk) rfl S.co S.gen rfl (PySem.W.codeRec_of KX iZ) (hb _ _ _ _ ?_);refine wpAny_newFunctionEnv_cells S.kind abQ λenv he s1 x=>?_;subst he;refine⟨lim.keeps x.toInCall.keep,codeAny_func ?_⟩;let⟨t,ht,hq⟩:=u6 A outer s H vs Q E (hr.deeper _) lM;let I:Inv (nS CX P w K mg base N qual scope f bX A outer s H E) [] (start N vs) H s1:=UU S hr.hd e0 hl r x;refine gb (ht [] s1 (start N vs) H _ I hq) (λfl s' hs=>?_) λe s' hs=>hs;let fin:∀{σ':St}{H':Hp}{v:V}{u:Value},Inv (nS CX P w K mg base N qual scope f bX A outer s H E) [] σ' H' s'→RelV v u→Q v H'→CE outer P w H s Q u s' :=
  λ{σ' H' v u} J rv q=>⟨v,H',J.os,J.bare,J.base,J.aH,rv,q⟩
 cases fl with
 |ret u =>
  let⟨v,σ',H',J,rv,q⟩:=hs;exact fin J rv q
 |next =>
  let⟨σ',H',J,q⟩:=hs;exact fin (v:=V.non) (u:=Value.none) J rfl q
 |brk =>
  let⟨_,_,_,q⟩:=hs;exact False.elim q
 |cont =>
  let⟨_,_,_,q⟩:=hs;exact False.elim q
section
variable {X:Cx}{x:Str}{p pos:Pos}{e:Expr}{es:Qjq}{t:TA}{id T:String}{r:List V→Hp→VK→Prop}
abbrev AF(r:List V→Hp→VK→Prop)(t:TA):TE:=λσ H Q=>t σ H λvs H1=>r vs H1 Q
def uq (hc:iP X (.builtin id) r) (hg:Gl X x) (hm:X.mg x=none) (hv:bootBuiltins x=some (.builtin id)) (ha:PA X (e::es) t) (hn:x ≠ "__name__" := by decide) (v7:(x==("__debug__" : Str))=false:=by decide)
  (he:starEach (e::es) X.env=(false,eval e X.env)::starEach es X.env:=by rfl) (mW:(backTo pos (starEach es X.env)).any (·.1)=false:=by rfl):PE X (.Call (.Name x p) (e::es) [] pos) (AF r t):=by
 intro pins s σ H Q I h;refine FP (lg I hg hm hv ?_ hn v7);exact PyProof.Rows.callWith_builtin1 (aK (ha pos pins s σ H _ I h) λus s1 ⟨vs,H1,I1,r1,q1⟩=>hc pins s1 σ H1 vs us Q I1 r1 q1) he mW
def CV (hc:iP X (.type T) r) (hg:Gl X x) (hm:X.mg x=none) (hv:bootBuiltins x=some (.type T)) (ha:PA X (e::es) t) (hn:x ≠ "__name__" := by decide) (v7:(x==("__debug__" : Str))=false:=by decide)
  (he:starEach (e::es) X.env=(false,eval e X.env)::starEach es X.env:=by rfl) (mW:(backTo pos (starEach es X.env)).any (·.1)=false:=by rfl):PE X (.Call (.Name x p) (e::es) [] pos) (AF r t):=by
 intro pins s σ H Q I h;refine FP (lg I hg hm hv ?_ hn v7);exact p6 (aK (ha pos pins s σ H _ I h) λus s1 ⟨vs,H1,I1,r1,q1⟩=>hc pins s1 σ H1 vs us Q I1 r1 q1) he mW
end
end L2
namespace HT
open PySem PyProof.Rows
section
open PySem.SeqAt
open PySem.AutoSeq1 (wpAny_loadPart')
open PySem.MeetsSeq PySem.MeetsSeq2 PySem.MeetsSeq3
end
section
variable {prog:Program}{w:World}{A:Around}{E:Qzx}{s:Shared}
def Xd{t b:Addr}{vs ws:Qxz}{Q:Qzx}(ht:IsTup s.heap t vs.toArray)(hb:IsTup s.heap b ws.toArray)(hv:vs≠[])
  (h1:ws=[]→Q (.ref t) s) (h2:ws≠[]→Q (.ref s.heap.objs.size) { s with heap:=s.heap.push { cls:=.type "tuple",data:=.seq (vs++ws).toArray } })
  (hsz:vs.length+ws.length≤sizeLine):wpAny (model prog w) A (binaryOp .Add (.ref t) (.ref b)) Q E s:=by
 let⟨⟨cls,dd,data,sl⟩,ho,hc,n,hd⟩:=id ht;let⟨⟨adA,AG,data2,sN⟩,kC,iF,n2,hd2⟩:=id hb;simp only at hc hd iF hd2;subst hc hd iF hd2;let e:vs.toArray++ws.toArray=(vs++ws).toArray:=by simp
 by_cases hw:ws=[]
 ·exact z9 ⟨_,ho,rfl⟩ ⟨_,kC,rfl⟩ FU seq_tuple_add FV FW (FX _ _)
   (tuple_addW1 t b vs.toArray ws.toArray n n2 dd AG sl sN (by simpa using hv) (by simp[hw])) ⟨ho,kC,h1 hw⟩
 ·refine z9 ⟨_,ho,rfl⟩ ⟨_,kC,rfl⟩ FU seq_tuple_add FV FW (FX _ _)
   (tuple_addW2 t b vs.toArray ws.toArray n n2 dd AG sl sN (by simpa using hv) (by simpa using hw) (by rw[List.size_toArray,List.size_toArray];exact hsz)) ⟨ho,kC,?_⟩
  rw[e];exact h2 hw
abbrev bj(n d:Nat):Option Int→Nat
 |none=>d
 |some v=>if v<0 then (v+(n:Int)).toNat else min v.toNat n
def Zw(n d:Nat)(hd:d≤n)(o:Option Int):bj n d o≤n:=by
 cases o with
 |none=>exact hd
 |some v =>
  show(if v<0 then (v+(n:Int)).toNat else min v.toNat n)≤n;by_cases hv:v<0
  ·rw[if_pos hv];omega
  ·rw[if_neg hv];exact Nat.min_le_right _ _
def K5(v:Int)(n d:Nat):(if v<0 then max (v+(n:Int)) 0 else min v (n:Int))=((bj n d (some v):Nat):Int):=by
 show(if v<0 then max (v+(n:Int)) 0 else min v (n:Int))=(((if v<0 then (v+(n:Int)).toNat else min v.toNat n):Nat):Int);by_cases hv:v<0
 ·simp only[if_pos hv];omega
 ·simp only[if_neg hv];omega
def Ur(lo hi:Option Int)(n:Nat):Builtin.Slice.sliceAdjust lo hi 1 (n:Int)=(((bj n 0 lo:Nat):Int),((bj n n hi:Nat):Int)):=by
 let h1:¬((1:Int)<0):=by omega
 unfold Builtin.Slice.sliceAdjust;simp only[h1,if_false];refine Prod.ext ?_ ?_
 ·cases lo with
  |none=>rfl
  |some v=>exact K5 v n 0
 ·cases hi with
  |none=>rfl
  |some v=>exact K5 v n n
def Us(i j:Nat):Builtin.Slice.slicePlaces (i:Int) (j:Int) 1=j-i:=by
 unfold Builtin.Slice.slicePlaces;let h1:(1:Int)>0:=by omega
 simp only[h1,if_true,Int.ediv_one];split<;>omega
def IU{v:Value}{o:Option Int}{Q:Option Int→Shared→Prop}(p:IsPart v o)(h:Q o s):wpAny (model prog w) A (Builtin.Slice.slicePartIndex v) Q E s:=by
 cases p with
 |none=>exact slicePart_none h
 |int i t=>exact slicePart_int h
def HQ{sl:Addr}{vl vu:Value}{lo hi:Option Int}{n:Nat}{Q:Int×Int×Nat→Shared→Prop}(hs:s.heap.IsSliceOf sl vl vu .none)(pl:IsPart vl lo)(pu:IsPart vu hi)
  (h:Q (((bj n 0 lo:Nat):Int),1,bj n n hi-bj n 0 lo) s):wpAny (model prog w) A (Builtin.Slice.sliceApplied (.ref sl) (pure (n:Int))) Q E s:=by
 let⟨os,qh,gP,mX⟩:=id hs;unfold Builtin.Slice.sliceApplied Builtin.Slice.sliceFields;refine aA (aA (wpAny_field qh mX (x:=vl) rfl (aA (wpAny_field qh mX (x:=vu) rfl (aA (wpAny_field qh mX (x:=.none) rfl (aO ?_)))))));refine aA (slicePart_none ?_);show wpAny _ _ (if ((1:Int)==0)=true then _ else _) _ _ s;rw[if_neg (by decide)];refine aA (IU pl (aA (IU pu (aA (aO ?_)))));show wpAny _ _ (match Builtin.Slice.sliceAdjust lo hi 1 (n:Int)with | (lo,hi)=>pure (lo,(1:Int),Builtin.Slice.slicePlaces lo hi 1)) _ _ s
 rw[Ur lo hi n];show wpAny _ _ (pure (((bj n 0 lo:Nat):Int),(1:Int),Builtin.Slice.slicePlaces ((bj n 0 lo:Nat):Int) ((bj n n hi:Nat):Int) 1)) _ _ s;rw[Us];exact aO h
def VC(xs:Array Value)(i k:Nat):((List.range k).filterMap λ(m:Nat)=>xs[((i:Int)+(m:Int)*1).toNat]?).toArray=((xs.toList.drop i).take k).toArray:=by
 let e:(λ(m:Nat)=>xs[((i:Int)+(m:Int)*1).toNat]?)=λm=>xs[i+m]?:=by
  funext m;have:((i:Int)+(m:Int)*1).toNat=i+m:=by omega
  rw[this]
 rw[e];have:=pick_run xs i k;rw[List.filterMap_map]at this;let e2:((λx=>xs[x]?)∘λx=>i+x)=λm=>xs[i+m]?:=rfl;rw[e2]at this;rw[this]
def TJ{t sl:Addr}{items:Array Value}{vl vu:Value}{lo hi:Option Int}{Q:Qzx}(ht:IsTup s.heap t items)(hs:s.heap.IsSliceOf sl vl vu .none)(pl:IsPart vl lo)(pu:IsPart vu hi)
  (hw:¬(bj items.size 0 lo=0∧bj items.size items.size hi=items.size))
  (h:Q (.ref s.heap.objs.size) { s with heap:=s.heap.push { cls:=.type "tuple",data:=.seq ((items.toList.drop (bj items.size 0 lo)).take (bj items.size items.size hi-bj items.size 0 lo)).toArray } })
  (hsz:items.size≤sizeLine):wpAny (model prog w) A (getItem (.ref t) (.ref sl)) Q E s:=by
 let y7:sizeOk (.seq ((items.toList.drop (bj items.size 0 lo)).take (bj items.size items.size hi-bj items.size 0 lo)).toArray):=by
  show((items.toList.drop (bj items.size 0 lo)).take (bj items.size items.size hi-bj items.size 0 lo)).toArray.size≤sizeLine;rw[gE,lH,List.length_drop,n6];omega
 let hj:bj items.size items.size hi≤items.size:=Zw _ _ (aW _) hi;let⟨os,qh,gP,mX⟩:=id hs;let Gi:s.TypeIs (.ref sl) "slice" := ⟨os,qh,gP⟩;unfold getItem
 try with_reducible refine kg ?_
 first|refine aA (aO ?_)|skip
 refine aA (wpAny_sequenceKey ht.typeIs (by decide) ?_);refine aA (Aa (name:=Str.ofString "__getitem__") ht.typeIs sk
  (pY sk ht.typeIs entry_tuple_getitem ?_ (args_tuple_getitem _ _)))
 show wpAny _ _ (Builtin.Tuple.tupleItemsOf (.ref t) >>= _) _ _ s;refine aA (tupleItemsOf_ ht ?_);refine aA (wpAny_typeOf Gi ?_);rw[if_pos (by decide)];refine aA (HQ hs pl pu ?_);let mY:¬((((bj items.size 0 lo:Nat):Int)==0&&(1:Int)==1&&(bj items.size items.size hi-bj items.size 0 lo)==items.size)=true):=by
  intro q;rw[lI,lI]at q;let q1:((bj items.size 0 lo:Nat):Int)=0:=eq_of_beq q.1.1;let q2:bj items.size items.size hi-bj items.size 0 lo=items.size:=eq_of_beq q.2;exact hw ⟨by omega,by omega⟩
 show wpAny _ _ (if (((bj items.size 0 lo:Nat):Int)==0&&(1:Int)==1&&(bj items.size items.size hi-bj items.size 0 lo)==items.size)=true then _ else _) _ _ s;rw[if_neg mY,VC]
 first
  |exact aA (m:=Builtin.Tuple.tupleExact _) (n8 (aO ⟨_,rfl,aO h⟩) y7)
  |exact aA (m:=Builtin.Tuple.tupleExact _) (n8 (aA (aO (aO ⟨_,rfl,aO h⟩))) y7)
  |exact aA (aA (m:=Builtin.Tuple.tupleExact _) (n8 (aO (aO ⟨_,rfl,aO h⟩)) y7))
  |exact aA (aA (m:=Builtin.Tuple.tupleExact _) (n8 (aO ⟨_,rfl,aO h⟩) y7))
end
end HT
namespace L2
open PySem PySem.Spec PyProof.Rows
noncomputable abbrev TO:=St→Hp→(Option Int→Hp→Prop)→Prop
def PO(X:Cx)(e:Option Expr)(t:TO):Prop :=
 ∀(pins:Qxq) (s:Shared) (σ:St) (H:Hp) (Q:Option Int→Hp→Prop),Inv X pins σ H s→t σ H Q →
  wpAny (model X.prog X.w) X.A (evalPart e X.env) (λu s'=>∃o H',Inv X pins σ H' s'∧IsPart u o∧Q o H') X.xe s
abbrev K6:TO:=λ_ H Q=>Q none H
abbrev Oc(t:TE):TO:=λσ H Q=>t σ H λx H1=>∃i,x=.int i∧Q (some i) H1
section
variable {X:Cx}{e:Expr}{te:TE}{lo hi:Option Expr}{tl th:TO}{pos p2:Pos}
def Xe:PO X none K6:=by
 intro pins s σ H Q I h;rw[evalPart_none];exact aO ⟨none,H,I,.none,h⟩
def Xf(h:PE X e te):PO X (some e) (Oc te):=by
 intro pins s σ H Q I hw;rw[evalPart_some];refine aK (h pins s σ H _ I hw) λu s1 ⟨x,H1,I1,r1,q1⟩=>?_;let⟨i,rfl,q⟩:=q1;let⟨t,rfl⟩:=r1;exact⟨some i,H1,I1,.int i t,q⟩
def mZ(X:Cx)(r:V→Option Int→Option Int→Hp→VK→Prop):Prop :=
 ∀(pins:Qxq) (s:Shared) (σ:St) (H:Hp) (x:V) (v vl vu:Value) (lo hi:Option Int) (sl:Addr) (Q:VK),Inv X pins σ H s→RelV x v→s.heap.IsSliceOf sl vl vu .none→IsPart vl lo→IsPart vu hi→r x lo hi H Q →
  ∃T id,typeLookup (.type T) "__getitem__" = pure (some (.builtin id))∧s.TypeIs v T∧wpAny (model X.prog X.w) X.A (getItem v (.ref sl)) (EP X pins σ Q) X.xe s
abbrev QM(r:V→Option Int→Option Int→Hp→VK→Prop)(te:TE)(tl th:TO):TE:=λσ H Q=>te σ H λx H1=>tl σ H1 λl H2=>th σ H2 λu H3=>r x l u H3 Q
def VD{r:V→Option Int→Option Int→Hp→VK→Prop}(hr:mZ X r)(he:PE X e te)(hl:PO X lo tl)(hu:PO X hi th):PE X (.Subscript e (.Slice lo hi none p2) pos) (QM r te tl th):=by
 intro pins s σ H Q I h;refine Subscript_ (aK (he pins s σ H _ I h) λv s1 ⟨x,H1,I1,r1,q1⟩=>?_);refine wpAny_Slice (aK (hl pins s1 σ H1 _ I1 q1) λvl s2 ⟨l,H2,I2,pl,q2⟩=>aK (hu pins s2 σ H2 _ I2 q2) λvu s3 ⟨u,H3,I3,pu,q3⟩=>?_);rw[evalPart_none];refine aO ?_;let I4:Inv X pins σ H3 { s3 with heap:=s3.heap.push { cls:=.type "slice",data:=.fields #[vl,vu,.none] } }:=I3.kept (t':=s3.toks) λb ob q=>cG _ q;let⟨T,id,hT,ht,hg⟩:=hr pins { s3 with heap:=s3.heap.push { cls:=.type "slice",data:=.fields #[vl,vu,.none] } } σ H3 x v vl vu l u s3.heap.objs.size Q I4 r1 (Heap.IsSliceOf.new ..) pl pu q3;show wpAny (model X.prog X.w) X.A (subscriptTail e (.Slice lo hi none p2) v (.ref s3.heap.objs.size)) (EP X pins σ Q) X.xe { s3 with heap:=s3.heap.push { cls:=.type "slice",data:=.fields #[vl,vu,.none] } };exact tail_any (ops:=[.ref s3.heap.objs.size,v]) ht hT hg (by with_unfolding_all rfl)
def j0(xs:List V)(lo hi:Option Int):List V:=(xs.drop (HT.bj xs.length 0 lo)).take (HT.bj xs.length xs.length hi-HT.bj xs.length 0 lo)
def Iu(xs:List V)(lo hi:Option Int):(j0 xs lo hi).length≤xs.length:=by
 unfold j0;rw[lH,List.length_drop];omega
def adB(K:Qzk):V→Option Int→Option Int→Hp→VK→Prop:=λx lo hi H Q=>∃a xs,x=.ref a∧bC K H a xs ∧
 ¬(HT.bj xs.length 0 lo=0∧HT.bj xs.length xs.length hi=xs.length)∧∀p,H p=none→Q (.ref p) (upd H p (.tup (j0 xs lo hi)))
def Zx:mZ X (adB X.K):=by
 intro pins s σ H x v vl vu lo hi sl Q I rx hs pl pu h;let⟨a,xs,rfl,hx,hw,q⟩:=h;cases rx;let⟨its,r,ht,hz⟩:=I.tuple hx;let hlen:its.toArray.size=xs.length:=by rw[gE];exact r.length.symm
 refine⟨"tuple",_,sk.lookup,ht.typeIs,?_⟩;refine HT.TJ ht hs pl pu (by rw[hlen];exact hw) ?_ (by rw[hlen];exact hz);rw[hlen];refine⟨.ref s.heap.objs.size,_,I.laid (t':=s.toks) (o:=.tup (j0 xs lo hi)) (λb ob q=>cG _ q) (aW _) ?_,rfl,q _ (I.aH.fresh (aW _))⟩;exact⟨dM (Iu xs lo hi) hz,_,(r.drop (HT.bj xs.length 0 lo)).take (HT.bj xs.length xs.length hi-HT.bj xs.length 0 lo),pE.new _ _⟩
def abR(K:Qzk):R2:=λx y H Q=>∃a b xs ys,x=.ref a∧y=.ref b∧bC K H a xs∧bC K H b ys∧xs≠[]∧xs.length+ys.length≤sizeLine ∧
 (ys=[]→Q (.ref a) H)∧(ys≠[]→∀p,H p=none→Q (.ref p) (upd H p (.tup (xs++ys))))
def Vals.Dk{xs:List V}{us:Qxz}(r:Vals xs us):us=[]↔xs=[]:=by
 cases r with
 |nil=>simp
 |cons _ _=>simp
def Xg:bO X (binaryOp .Add) (abR X.K):=by
 intro pins s σ H x y v u Q I rx ry h;let⟨a,b,xs,ys,rfl,rfl,ha,hb,hx,hz,q1,q2⟩:=h;cases rx;cases ry;let⟨its,r1,p1,_⟩:=I.tuple ha;let⟨vo,r2,p2,_⟩:=I.tuple hb;refine HT.Xd p1 p2 (λz=>hx (r1.Dk.mp z)) (λz=>⟨.ref a,H,I,rfl,q1 (r2.Dk.mp z)⟩) (λz=>?_) (by rw[←r1.length,←r2.length];exact hz);refine⟨.ref s.heap.objs.size,_,I.laid (t':=s.toks) (o:=.tup (xs++ys)) (λb ob q=>cG _ q) (aW _) ?_,rfl,q2 (λw=>z (r2.Dk.mpr w)) _ (I.aH.fresh (aW _))⟩;exact⟨by rw[fw];exact hz,_,r1.append r2,pE.new _ _⟩
end
abbrev dh(n:Nat)(i:Int):Option Nat:=if 0≤i then (if i<n then some i.toNat else none)else if -(n:Int)≤i then some (i+n).toNat else none
def bp{α:Type}(xs:List α)(i:Int):Option α:=(dh xs.length i).bind λj=>xs[j]?
def K7{n:Nat}{i:Int}{j:Nat}(h:dh n i=some j):seqIndex? i n=some j∧j<n∧-(n:Int)≤i∧i<n:=by
 unfold dh at h;by_cases h0:0≤i
 ·rw[if_pos h0]at h;by_cases h1:i<n
  ·rw[if_pos h1]at h;let e:i.toNat=j:=eC h;exact⟨by rw[seqIndex_of h0 h1,e],by omega,by omega,h1⟩
  ·rw[if_neg h1]at h;cases h
 ·rw[if_neg h0]at h;by_cases h1:-(n:Int)≤i
  ·rw[if_pos h1]at h;let e:(i+n).toNat=j:=eC h;exact⟨by rw[seqIndex_neg (by omega) h1,e],by omega,h1,by omega⟩
  ·rw[if_neg h1]at h;cases h
def jh{α:Type}{xs:List α}{i:Int}{v:α}(h:bp xs i=some v):∃j,seqIndex? i xs.length=some j∧xs[j]?=some v∧j<xs.length∧-(xs.length:Int)≤i∧i<xs.length:=by
 unfold bp at h;cases e:dh xs.length i with
 |none=>rw[e]at h;cases h
 |some j =>
  rw[e]at h;let⟨h1,h2,h3,h4⟩:=K7 e;exact⟨j,h1,h,h2,h3,h4⟩
def ml{α:Type}{xs:List α}{j:Nat}{v:α}(h:xs[j]?=some v):bp xs (j:Int)=some v:=by
 let hj:j<xs.length:=(a9.mp h).1;let e:dh xs.length (j:Int)=some j:=by
  unfold dh;rw[if_pos (by omega),if_pos (by omega)];simp
 unfold bp;rw[e];exact h
def J9{α:Type}(xs:List α)(v:α):bp (xs++[v]) (-1)=some v:=by
 let hl:(xs++[v]).length=xs.length+1:=by simp
 let e:dh (xs++[v]).length (-1)=some xs.length:=by
  unfold dh;rw[hl,if_neg (by decide),if_pos (by omega)];congr 1;omega
 unfold bp;rw[e];show(xs++[v])[xs.length]?=some v;simp
def K8(b:Expr):Prop:=∀o i,subscripted b false o i=operate [o,i] (getItem o i)
def lN(X:Cx)(r:R2):Prop :=
 ∀(value slice:Expr) (pins:Qxq) (s:Shared) (σ:St) (H:Hp) (x y:V) (v u:Value) (Q:VK),Inv X pins σ H s→RelV x v→RelV y u→r x y H Q →
  subscripted slice false v u=operate [v,u] (getItem v u)→wpAny (model X.prog X.w) X.A (subscriptTail value slice v u) (EP X pins σ Q) X.xe s
def Gj(X:Cx)(id:String)(r:V→List V→Hp→VK→Prop):Prop :=
 ∀(pins:Qxq) (s:Shared) (σ:St) (H:Hp) (x:V) (xs:List V) (v:Value) (us:Qxz) (Q:VK),Inv X pins σ H s→RelV x v→Vals xs us→r x xs H Q →
  wpAny (model X.prog X.w) X.A (call (.builtin id) (v::us)) (EP X pins σ Q) X.xe s
section
variable {X:Cx}{a b:Expr}{ta tb:TE}{pos:Pos}
def lN.or{r r':R2}(h:lN X r)(h':lN X r'):lN X (λx y H Q=>r x y H Q∨r' x y H Q):=by
 intro value slice pins s σ H x y v u Q I rx ry q hs;rcases q with q|q
 ·exact h value slice pins s σ H x y v u Q I rx ry q hs
 ·exact h' value slice pins s σ H x y v u Q I rx ry q hs
def y8{r:R2}(hr:lN X r)(ha:PE X a ta)(hb:PE X b tb)(hs:K8 b):PE X (.Subscript a b pos) (ou r ta tb):=by
 intro pins s σ H Q I h;exact Subscript_ (EC ha hb I h λv u s2 x y H2 I2 rx ry q=>hr a b pins s2 σ H2 x y v u Q I2 rx ry q (hs _ _))
def Pa(K:Qzk):R2:=λx y H Q=>∃p xs i v,x=.ref p∧y=.int i∧b0 K H p xs∧bp xs i=some v∧Q v H
def Pb(K:Qzk):R2:=λx y H Q=>∃p xs i v,x=.ref p∧y=.int i∧bC K H p xs∧bp xs i=some v∧Q v H
def Pg:R2:=λx y H Q=>∃z i c,x=.str z∧y=.int i∧z.length≤sizeLine∧bp z.cps.toList i=some c∧Q (.str ⟨#[c]⟩) H
def Xh:lN X (Pa X.K):=by
 intro value slice pins s σ H x y v u Q I rx ry h hs;let⟨p,xs,i,z,rfl,rfl,hq,he,q⟩:=h;cases rx;let⟨t,rfl⟩:=ry;let⟨its,r,pl,hz⟩:=I.list hq;let⟨j,h1,h2,h3,h4,h5⟩:=jh he;let⟨w,ew,kE⟩:=r.get h2;let hl:=r.length;let hn:=qS;let fin:EP X pins σ Q w s:=⟨z,H,I,kE,q⟩;by_cases h0:0≤i
 ·let hj:i.toNat=j:=by
   rw[seqIndex_of h0 h5]at h1;exact eC h1
  exact item_listR pl.isList h0 (by omega) (by rw[hj];simpa using ew) fin hs
 ·let hj:(i+(its.toArray.size:Int)).toNat=j:=by
   rw[seqIndex_neg (by omega) h4]at h1;rw[gE,←hl];exact eC h1
  exact subscriptTail_builtinR (x:=w) pl.isList.typeIs slot_list_getitem.lookup
   (wpAny_getItem_list_neg (Q:=λr s'=>r=w∧EP X pins σ Q r s') pl.isList (by omega) (by rw[gE]<;>omega) (by omega) (by rw[hj];simpa using ew) ⟨rfl,fin⟩) hs
def Zy:lN X (Pb X.K):=by
 intro value slice pins s σ H x y v u Q I rx ry h hs;let⟨p,xs,i,z,rfl,rfl,hq,he,q⟩:=h;cases rx;let⟨t,rfl⟩:=ry;let⟨its,r,pl,hz⟩:=I.tuple hq;let⟨j,h1,h2,h3,h4,h5⟩:=jh he;let⟨w,ew,kE⟩:=r.get h2;let hl:=r.length;let hn:=qS;let fin:EP X pins σ Q w s:=⟨z,H,I,kE,q⟩;exact subscriptTail_builtinR (x:=w) pl.typeIs slot_tuple_getitem.lookup
  (getItem_tuple (j:=j) (Q:=λr s'=>r=w∧EP X pins σ Q r s') pl (by omega) (by omega) (by rw[gE,←hl];exact h1) (by simpa using ew) ⟨rfl,fin⟩) hs
def Zz:lN X Pg:=by
 intro value slice pins s σ H x y v u Q I rx ry h hs;let⟨z,i,c,rfl,rfl,hz,he,q⟩:=h;let⟨t,rfl⟩:=rx;let⟨t',rfl⟩:=ry;let⟨j,h1,h2,h3,h4,h5⟩:=jh he;let hl:z.cps.toList.length=z.length:=by simp[Str.length]
 rw[hl]at h1 h4 h5;let hn:=qS;exact tail_any (typeIs_str s z t) slot_str_getitem.lookup (getItem_str (c:=c) (by
  let e1:decide (i < -(2^63:Int))=false:=eQ (by omega);let e2:decide (i≥2^63)=false:=eQ (by omega);rw[e1,e2,FY]) (by rw[h1];simpa using h2) ⟨.str ⟨#[c]⟩,H,I.tok _,⟨_,rfl⟩,q⟩) hs
def sO(K:Qzk):R2:=λx y H Q=>Pa K x y H Q∨Pb K x y H Q∨Pg x y H Q
def ZC:lN X (sO X.K):=Xh.or (Zy.or Zz)
def Ut(its:Qxz)(n j:Nat)(u:Value):Obj.mapSeq (·.setIfInBounds j u) { cls:=.type "list",data:=.seq its.toArray n }={ cls:=.type "list",data:=.seq (its.set j u).toArray n }:=by
 simp[Obj.mapSeq]
theorem Inv.lst{pins:Qxq}{σ:St}{H:Hp}{s:Shared}{p:Addr}{xs:List V}(I:Inv X pins σ H s)(h:H p=some (.lst xs)) :
  ∃(its:Qxz) (n:Nat),Vals xs its∧s.heap.get? p=some { cls:=.type "list",data:=.seq its.toArray n }∧xs.length≤sizeLine:=by
 let⟨z,its,n,r,e⟩:=I.aH p _ h;exact⟨its,n,r,e,z⟩
def Inv.ZD{pins:Qxq}{σ:St}{H:Hp}{s:Shared}{p:Addr}{xs ys:List V}{its its':Qxz}{n n':Nat}{f:Obj→Obj}(I:Inv X pins σ H s)(h:H p=some (.lst xs))
  (ho:s.heap.get? p=some { cls:=.type "list",data:=.seq its.toArray n }) (hf:f { cls:=.type "list",data:=.seq its.toArray n }={ cls:=.type "list",data:=.seq its'.toArray n' }) (r:Vals ys its') (hz:ys.length≤sizeLine) (t:Nat) :
  Inv X pins σ (upd H p (.lst ys)) { s with heap:=s.heap.update p f,toks:=t }:=by
 let e:(s.heap.update p f).get? p=some { cls:=.type "list",data:=.seq its'.toArray n' }:=by
  rw[Heap.get?_update_self f ho (by rw[hf]<;>rfl),hf]
 refine I.write (x:=p) (e:=p) (by rw[h];trivial) (.inl rfl) (λb u hb q=>(Heap.get?_update_other _ _ (lG hb)).trans q) ⟨_,e⟩ ?_;exact⟨hz,its',n',r,e⟩
def Od:V→V→V→Hp→(Hp→Prop)→Prop:=λo i v H Q=>∃p xs k j,o=.ref p∧i=.int k∧H p=some (.lst xs)∧dh xs.length k=some j∧Q (upd H p (.lst (xs.set j v)))
def set_list:O8 X Od:=by
 intro pins s σ H o i v ov iv u Q I ro ri rv h;let⟨p,xs,k,j,rfl,rfl,hp,hj,q⟩:=h;cases ro;let⟨t,rfl⟩:=ri;let⟨its,n,r,ho,hz⟩:=I.lst hp;let⟨h1,h2,h3,h4⟩:=K7 hj;let hl:=r.length;let hn:=qS;let I':Inv X pins σ (upd H p (.lst (xs.set j v))) { s with heap:=s.heap.update p (Obj.mapSeq (·.setIfInBounds j u)) } :=
  I.ZD hp ho (Ut its n j u) (r.set rv j) (by rw[gd];exact hz) s.toks
 by_cases h0:0≤k
 ·let hk:k.toNat=j:=by
   rw[seqIndex_of h0 h4]at h1;exact eC h1
  exact PySem.W.ki_setAt ho h0 (by omega) (by rw[gE,←hl];exact h4) (by rw[hk];exact⟨_,I',q⟩)
 ·let hk:(k+(its.toArray.size:Int)).toNat=j:=by
   rw[seqIndex_neg (by omega) h3]at h1;rw[gE,←hl];exact eC h1
  exact PySem.W.ki_setBack ho (by omega) (by rw[gE,←hl];exact h3) (by omega) (by rw[hk];exact⟨_,I',q⟩)
def TX(lo hi:Option Int)(n:Nat):(sliceBounds lo hi none n).1=((HT.bj n 0 lo:Nat):Int)∧(sliceBounds lo hi none n).2.1=((HT.bj n n hi:Nat):Int)∧(sliceBounds lo hi none n).2.2=1:=by
 refine⟨?_,?_,rfl⟩
 ·cases lo with
  |none=>simp[sliceBounds,HT.bj]
  |some i =>
   simp only[sliceBounds,HT.bj,Option.getD_none,show(1:Int)>0 by decide,if_true];by_cases h:i<0
   ·simp only[h,if_true]<;>omega
   ·simp only[h,if_false]<;>omega
 ·cases hi with
  |none=>simp[sliceBounds,HT.bj]
  |some i =>
   simp only[sliceBounds,HT.bj,Option.getD_none,show(1:Int)>0 by decide,if_true];by_cases h:i<0
   ·simp only[h,if_true]<;>omega
   ·simp only[h,if_false]<;>omega
def TQ(its:Qxz)(lo hi:Option Int):slicePick its.toArray lo hi none=((its.drop (HT.bj its.length 0 lo)).take (HT.bj its.length its.length hi-HT.bj its.length 0 lo)).toArray:=by
 let⟨h1,h2,h3⟩:=TX lo hi its.toArray.size;unfold slicePick;rw[h1,h2,h3];simp only[sliceRange_one,pick_run,List.size_toArray]<;>rfl
def EH(K:Qzk):V→Option Int→Option Int→Hp→VK→Prop:=λx lo hi H Q=>∃a xs,x=.ref a∧b0 K H a xs∧∀p,H p=none→Q (.ref p) (upd H p (.lst (j0 xs lo hi)))
def Xi:mZ X (EH X.K):=by
 intro pins s σ H x v vl vu lo hi sl Q I rx hs pl pu h;let⟨a,xs,rfl,hx,q⟩:=h;cases rx;let⟨its,r,ht,hz⟩:=I.list hx;let hlen:=r.length;refine⟨"list",_,slot_list_getitem.lookup,ht.isList.typeIs,?_⟩;refine wpAny_getItem_list_slice ht.isList hs pl pu .none (by simp) ?_ (by rw[List.size_toArray]<;>omega);rw[TQ,←hlen];refine⟨.ref s.heap.objs.size,_,I.laid (t':=s.toks) (o:=.lst (j0 xs lo hi)) (λb ob q=>cG _ q) (aW _) ?_,rfl,q _ (I.aH.fresh (aW _))⟩;exact⟨dM (Iu xs lo hi) hz,_,0,(r.drop (HT.bj xs.length 0 lo)).take (HT.bj xs.length xs.length hi-HT.bj xs.length 0 lo),gD _ rfl⟩
abbrev ll:V→Bool
 |.non=>true
 |.bl _=>true
 |.int _=>true
 |.str _=>true
 |_=>false
abbrev kH:V→V→Bool
 |.non,.non=>true
 |.bl a,.bl b=>a==b
 |.bl a,.int b=>(if a then 1 else 0)==b
 |.int a,.bl b=>a==(if b then 1 else 0)
 |.int a,.int b=>a==b
 |.str a,.str b=>a==b
 |_,_=>false
def ZE{A:Around}{s:Shared}{y x:V}{u v:Value}(ry:RelV y u)(rx:RelV x v)(fy:ll y=true)(fx:ll x=true):SeqAt.EqAt A s u v (kH y x):=by
 cases y with
 |non =>
  cases ry;cases x with
  |non=>cases rx;exact vG _
  |bl b=>cases rx;exact SeqAt.EqAt.none_bool b
  |int b=>let⟨t,rfl⟩:=rx;exact FK b t
  |str b=>let⟨t,rfl⟩:=rx;exact FL b t
  |_=>exact absurd (show false=true from fx) bx
 |bl a =>
  cases ry;cases x with
  |non=>cases rx;exact SeqAt.EqAt.bool_none a
  |bl b=>cases rx;exact SeqAt.EqAt.bool_bool a b
  |int b=>let⟨t,rfl⟩:=rx;exact SeqAt.EqAt.bool_int a b t
  |str b=>let⟨t,rfl⟩:=rx;exact SeqAt.EqAt.bool_str a b t
  |_=>exact absurd (show false=true from fx) bx
 |int a =>
  let⟨t',rfl⟩:=ry;cases x with
  |non=>cases rx;exact FH a t'
  |bl b=>cases rx;exact SeqAt.EqAt.int_bool a t' b
  |int b=>let⟨t,rfl⟩:=rx;exact SeqAt.EqAt.int_int a t' b t
  |str b=>let⟨t,rfl⟩:=rx;exact FG a t' b t
  |_=>exact absurd (show false=true from fx) bx
 |str a =>
  let⟨t',rfl⟩:=ry;cases x with
  |non=>cases rx;exact FJ a t'
  |bl b=>cases rx;exact SeqAt.EqAt.str_bool a t' b
  |int b=>let⟨t,rfl⟩:=rx;exact FI a t' b t
  |str b=>let⟨t,rfl⟩:=rx;exact SeqAt.EqAt.str_str a t' b t
  |_=>exact absurd (show false=true from fx) bx
 |_=>exact absurd (show false=true from fy) bx
def hV(x:V)(u:Value):Bool:=match u with
 |.none=>kH .non x
 |.bool b=>kH (.bl b) x
 |.int i _=>kH (.int i) x
 |.str z _=>kH (.str z) x
 |_=>false
def MC{x y:V}{u:Value}(r:RelV y u)(f:ll y=true):hV x u=kH y x:=by
 cases y with
 |non=>cases r;rfl
 |bl b=>cases r;rfl
 |int i=>let⟨t,rfl⟩:=r;rfl
 |str z=>let⟨t,rfl⟩:=r;rfl
 |_=>exact absurd (show false=true from f) bx
theorem uE{x:V}:∀{xs:List V}{us:Qxz},Vals xs us→xs.all ll=true→us.any (hV x)=xs.any λy=>kH y x
 |_,_,.nil,_=>rfl
 |y::xs,u::us,.cons r t,f=>by
  rw[p9,lI]at f;rw[qa,qa,MC r f.1,uE t f.2]
theorem ur{A:Around}{s:Shared}{x:V}{v:Value}(rx:RelV x v)(fx:ll x=true):∀{xs:List V}{us:Qxz},Vals xs us→xs.all ll=true→∀u∈us,SeqAt.EqAt A s u v (hV x u)
 |_,_,.nil,_=>λu hu=>by cases hu
 |y::xs,u::us,.cons r t,f=>λu' hu=>by
  rw[p9,lI]at f;rcases dN.mp hu with rfl|hu
  ·rw[MC r f.1];exact ZE r rx f.1 fx
  ·exact ur rx fx t f.2 u' hu
def eE(x:V)(xs:List V):Bool:=xs.any λy=>kH y x
def v9(K:Qzk)(neg:Bool):R2:=λx y H Q=>∃p xs,y=.ref p∧(b0 K H p xs∨bC K H p xs)∧ll x=true∧xs.all ll=true∧Q (.bl (if neg then !eE x xs else eE x xs)) H
def UW:bO X (compareOp .In) (v9 X.K false):=by
 intro pins s σ H x y v u Q I rx ry h;let⟨p,xs,rfl,hq,fx,fs,q⟩:=h;cases ry;rcases hq with hq|hq
 ·let⟨its,r,pl,hz⟩:=I.list hq;refine SeqAt.in_listAt (hV x) pl.isList (λw hw=>ur rx fx r fs w (by simpa using hw)) ⟨.bl _,H,I,rfl,?_⟩;rw[show its.toArray.any (hV x)=its.any (hV x) by simp,uE r fs];exact q
 ·let⟨its,r,pl,hz⟩:=I.tuple hq;refine SeqAt.in_tupleAt (hV x) pl (λw hw=>ur rx fx r fs w (by simpa using hw)) ⟨.bl _,H,I,rfl,?_⟩;rw[show its.toArray.any (hV x)=its.any (hV x) by simp,uE r fs];exact q
def TY:bO X (compareOp .NotIn) (v9 X.K true):=by
 intro pins s σ H x y v u Q I rx ry h;let⟨p,xs,rfl,hq,fx,fs,q⟩:=h;cases ry;rcases hq with hq|hq
 ·let⟨its,r,pl,hz⟩:=I.list hq;refine SeqAt.notIn_listAt (hV x) pl.isList (λw hw=>ur rx fx r fs w (by simpa using hw)) ⟨.bl _,H,I,rfl,?_⟩;rw[show its.toArray.any (hV x)=its.any (hV x) by simp,uE r fs];exact q
 ·let⟨its,r,pl,hz⟩:=I.tuple hq;refine SeqAt.notIn_tupleAt (hV x) pl (λw hw=>ur rx fx r fs w (by simpa using hw)) ⟨.bl _,H,I,rfl,?_⟩;rw[show its.toArray.any (hV x)=its.any (hV x) by simp,uE r fs];exact q
def T4:iP X (.type "list") (λxs H Q=>∃p ys,xs=[.ref p]∧(b0 X.K H p ys∨bC X.K H p ys)∧∀l,H l=none→Q (.ref l) (upd H l (.lst ys))):=by
 intro pins s σ H xs us Q I r h;let⟨p,ys,rfl,hq,q⟩:=h;let⟨u,rfl,rx⟩:=vals1 r;cases rx;let fin:∀(its:Qxz),Vals ys its→ys.length≤sizeLine→∀(h':Heap) (c':Nat),(∀b o',s.heap.get? b=some o'→h'.get? b=some o') →
   h'.get? s.heap.objs.size=some { cls:=.type "list",dict:=none,data:=.seq its.toArray c',slots:=#[] }→EP X pins σ Q (.ref s.heap.objs.size) { s with heap:=h' }:=λits r' hz h' c' kp e =>
  ⟨.ref s.heap.objs.size,_,I.laid (t':=s.toks) kp (aW _) (show cK X.prog X.w _ h' _ (.lst ys) from⟨hz,its,c',r',e⟩),rfl,q _ (I.aH.fresh (aW _))⟩
 rcases hq with hq|hq
 ·let⟨its,r',pl,hz⟩:=I.list hq;let hlen:=r'.length;let⟨o,ho,hc,n,hd⟩:=pl.isList;exact call_list_seq p (.inl rfl) ho hc hd (λh' c' kp e=>fin its r' hz h' c' kp e) (by simp only[List.size_toArray]<;>omega)
 ·let⟨its,r',pl,hz⟩:=I.tuple hq;let hlen:=r'.length;let⟨o,ho,hc,n,hd⟩:=pl;exact call_list_seq p (.inr rfl) ho hc hd (λh' c' kp e=>fin its r' hz h' c' kp e) (by simp only[List.size_toArray]<;>omega)
def Gk(K:Qzk)(T:String)(x:V)(H:Hp):Prop:=match x with
 |.str _=>T = "str"
 |.int _=>T = "int"
 |.ref p=>(T = "list" ∧ ∃xs,b0 K H p xs)∨(T = "tuple" ∧ ∃o,K.lookup p=some o∧o.cls=.type "tuple" ∧ o.dict=none) ∨
  (T = "dict" ∧ ((∃aj,H p=some (.dK aj))∨∃aj,H p=some (.dT aj)))∨(T = "set" ∧ ∃S n,H p=some (.set S n))
 |_=>False
def MD{pins:Qxq}{σ:St}{H:Hp}{s:Shared}{T:String}{x:V}{v:Value}(I:Inv X pins σ H s)(r:RelV x v)(ty:Gk X.K T x H) :
  s.TypeIs v T∧∀a,v=.ref a→∃ob,s.heap.get? a=some ob∧ob.dict=none:=by
 cases x with
 |str z =>
  let⟨t,rfl⟩:=r;cases (show T = "str" from ty);exact⟨typeIs_str s z t,λ_ e=>nomatch e⟩
 |int i =>
  let⟨t,rfl⟩:=r;cases (show T = "int" from ty);exact⟨typeIs_int s i t,λ_ e=>nomatch e⟩
 |ref p =>
  cases r;rcases ty with⟨rfl,xs,hq⟩|⟨rfl,o,hk,hc,hd⟩|⟨rfl,hk⟩|⟨rfl,S,n,hk⟩
  ·let⟨its,_,pl,_⟩:=I.list hq;refine⟨pl.isList.typeIs,λa e=>?_⟩;cases e;let⟨o,n,e,c,hd,_⟩:=pl;exact⟨o,e,hd⟩
  ·refine⟨⟨o,I.iE p o hk,hc⟩,λa e=>?_⟩;cases e;exact⟨o,I.iE _ o hk,hd⟩
  ·let z:∃o,s.heap.get? p=some o∧o.ExactDict:=by
    rcases hk with⟨aj,hk⟩|⟨aj,hk⟩
    ·let⟨_,_,_,_,o,_,_,e,ex,_⟩:=I.aH p _ hk;exact⟨o,e,ex⟩
    ·let⟨_,_,_,_,o,_,_,e,ex,_⟩:=I.aH p _ hk;exact⟨o,e,ex⟩
   let⟨o,e,ex⟩:=z;refine⟨⟨o,e,ex.1⟩,λa e2=>?_⟩;cases e2;exact⟨o,e,ex.2.1⟩
  ·let⟨o,_,_,_,e,ex,_⟩:=I.aH p _ hk;refine⟨⟨o,e,ex.1⟩,λa e2=>?_⟩;cases e2;exact⟨o,e,ex.2.1⟩
 |_=>exact False.elim ty
abbrev zE(K:Qzk)(T:String)(r:V→List V→Hp→VK→Prop)(to:TE):TE:=λσ H Q=>to σ H λx H1=>Gk K T x H1∧r x [] H1 Q
abbrev wa(K:Qzk)(T:String)(r:V→List V→Hp→VK→Prop)(to:TE)(t:TA):TE:=λσ H Q=>to σ H λx H1=>Gk K T x H1∧t σ H1 λxs H2=>r x xs H2 Q
variable {o e:Expr}{es:Qjq}{to:TE}{t:TA}{name:Str}{apos dF:Pos}{T id:String}{r:V→List V→Hp→VK→Prop}
def ZF (pa:PlainAttrs T) (slot:Slot T name id) (lO:typeOf (.builtin id)=pure (.type "method_descriptor")) (hm:Gj X id r) (ho:PE X o to)
  (Ed:attributeBase o name X.env (eval o X.env)=eval o X.env:=by rfl) (hline:(apos.endLine==dF.line)=true:=by rfl):PE X (.Call (.Attribute o name apos) [] [] dF) (zE X.K T r to):=by
 intro pins s σ H Q I h;refine wpAny_Call_method0_late Ed hline (aK (ho pins s σ H _ I h) λv s1 ⟨x,H1,I1,r1,ty,q1⟩=>?_);let⟨h1,h2⟩:=MD I1 r1 ty;exact⟨T,id,pa,slot,lO,h1,h2,FZ rfl (PySem.evalArgs_none (hm pins s1 σ H1 x [] v [] Q I1 r1 .nil q1))⟩
def abS (pa:PlainAttrs T) (slot:Slot T name id) (lO:typeOf (.builtin id)=pure (.type "method_descriptor")) (hm:Gj X id r) (ho:PE X o to) (ha:PA X (e::es) t)
  (Ed:attributeBase o name X.env (eval o X.env)=eval o X.env:=by rfl)
  (adC:((backTo dF (starEach (e::es) X.env)).all (λx=>!x.1)&&(backToKw dF (keywordEach [] X.env)).all (λx=>x.1.isSome)
   && decide ((e::es).length+([]:List Keyword).length+(if ([]:List Keyword).isEmpty then 0 else 1)<30))=true:=by rfl)
  (hline:(apos.endLine==dF.line)=true:=by rfl) (hs:starEach (e::es) X.env=(false,eval e X.env)::starEach es X.env:=by rfl) (ZG:(backTo dF (starEach es X.env)).any (·.1)=false:=by rfl) :
  PE X (.Call (.Attribute o name apos) (e::es) [] dF) (wa X.K T r to t):=by
 intro pins s σ H Q I h;refine wpAny_Call_method_late Ed adC hline rfl (aK (ho pins s σ H _ I h) λv s1 ⟨x,H1,I1,r1,ty,q1⟩=>?_);let⟨h1,h2⟩:=MD I1 r1 ty;refine⟨T,id,pa,slot,lO,h1,h2,?_⟩;let hA:=ha dF pins s1 σ H1 _ I1 q1;rw[hs]at hA ⊢;refine FZ (by show(false||(backTo dF (starEach es X.env)).any (·.1))=false;rw[ZG]<;>rfl) (Calls.evalArgs_plain ?_);exact aK hA λus s2 ⟨vs,H2,I2,r2,q2⟩=>hm pins s2 σ H2 x vs v us Q I2 r1 r2 q2
end
def Gm(X:Cx)(id:String)(r:V→List V→Hp→VK→Prop):Prop :=
 ∀(pins:Qxq) (s:Shared) (σ:St) (H:Hp) (x:V) (xs:List V) (v:Value) (us:Qxz) (Q:VK),Inv X pins σ H s→RelV x v→Vals xs us→r x xs H Q →
  wpAny (model X.prog X.w) X.A (call (.builtin id) (v::us)) (EP X pins σ Q) X.xe s
def Vals.zero{us:Qxz}(h:Vals [] us):us=[]:=by cases h;rfl
def Vals.one{x:V}{us:Qxz}(h:Vals [x] us):∃u,us=[u]∧RelV x u:=by
 cases h with|cons r t=>cases t;exact⟨_,rfl,r⟩
def Vals.two{x y:V}{us:Qxz}(h:Vals [x,y] us):∃u v,us=[u,v]∧RelV x u∧RelV y v:=by
 cases h with|cons r t=>let⟨v,rfl,q⟩:=Vals.one t;exact⟨_,_,rfl,r,q⟩
theorem Vals.dropLast{xs:List V}{us:Qxz}(h:Vals xs us):Vals xs.dropLast us.dropLast:=by
 induction h with
 |nil=>exact .nil
 |cons r t ih =>
  cases t with
  |nil=>exact .nil
  |cons q t'=>exact .cons r ih
theorem Vals.reverse{xs:List V}{us:Qxz}(h:Vals xs us):Vals xs.reverse us.reverse:=by
 induction h with
 |nil=>exact .nil
 |cons r t ih=>rw[vJ,vJ];exact Vals.append ih (.cons r .nil)
theorem Vals.rep{xs:List V}{us:Qxz}(h:Vals xs us):∀k:Nat,Vals (List.replicate k xs).flatten (List.replicate k us).flatten
 |0=>.nil
 |k+1=>by
  rw[Ab,Ab,Ac,Ac];exact Vals.append h (Vals.rep h k)
def Uu{α:Type}(l:List α):l.eraseIdx (l.length-1)=l.dropLast:=by
 induction l with
 |nil=>rfl
 |cons a r ih =>
  cases r with
  |nil=>rfl
  |cons b r =>
   let e:(a::b::r).length-1=((b::r).length-1)+1:=by
    let h1:(a::b::r).length=r.length+2:=rfl;let h2:(b::r).length=r.length+1:=rfl;omega
   rw[e,List.eraseIdx_cons_succ,ih]
   all_goals rfl
section
variable {X:Cx}{pins:Qxq}{σ:St}{H:Hp}{s:Shared}{l b:Addr}{xs ys zs:List V}
def Inv.EI{its its':Qxz}{n:Nat}{f:Array Value→Array Value}{t':Nat}(I:Inv X pins σ H s)(hH:H l=some (.lst xs))
  (e:s.heap.get? l=some { cls:=.type "list",data:=.seq its.toArray n }) (hf:f its.toArray=its'.toArray) (hv:Vals ys its') (hz:ys.length≤sizeLine) :
  Inv X pins σ (upd H l (.lst ys)) { s with heap:=s.heap.update l (Obj.mapSeq f),toks:=t' }:=by
 let q:=PySem.IsL.update e f;rw[hf]at q;refine I.write (x:=l) (e:=l) (by rw[hH];exact trivial) (.inl rfl) (λb' u hb hu=>(Heap.get?_update_other s.heap (Obj.mapSeq f) (lG hb)).trans hu) ⟨_,q⟩ ?_;exact⟨hz,its',_,hv,q⟩
def Inv.adD{its:Qxz}{t':Nat}(I:Inv X pins σ H s)(hv:Vals ys its)(hz:ys.length≤sizeLine) :
  Inv X pins σ (upd H s.heap.objs.size (.lst ys)) { s with heap:=s.heap.push { cls:=.type "list",data:=.seq its.toArray },toks:=t' } :=
 I.laid (λ_ _ q=>cG _ q) (aW _) ⟨hz,its,0,hv,gD _ rfl⟩
theorem Inv.fresh(I:Inv X pins σ H s):H s.heap.objs.size=none:=I.aH.fresh (aW _)
def Inv.EJ(I:Inv X pins σ H s)(hH:H l=some (.lst xs)):xs.length≤sizeLine∧∃(its:Qxz) (n:Nat),Vals xs its∧xs.length=its.length∧s.heap.get? l=some { cls:=.type "list",data:=.seq its.toArray n }:=by
 let⟨z,its,n,r,e⟩:=I.aH l _ hH;exact⟨z,its,n,r,r.length,e⟩
end
section
variable {X:Cx}
def uF:V→List V→Hp→VK→Prop:=λx vs H Q=>∃l xs y,x=.ref l∧vs=[y]∧H l=some (.lst xs)∧xs.length<sizeLine∧Q .non (upd H l (.lst (xs++[y])))
def Jx:Gm X "list.append" uF:=by
 intro pins s σ H x vs v us Q I rx rv h;let⟨l,xs,y,rfl,rfl,hH,hz,q⟩:=h;cases rx;let⟨u,rfl,ru⟩:=rv.one;let⟨z,its,n,r,hl,e⟩:=I.EJ hH;refine call_meets F.slot_list_append ⟨_,e,rfl⟩ F.entry_list_append (F.args_list_append_2 _ _) (PySem.list_append l its.toArray n u (by rw[gE];omega)) ⟨e,?_⟩;refine⟨.non,_,I.EI (its':=its++[u]) hH e (by simp) (r.append (.cons ru .nil)) ?_,rfl,q⟩;rw[fw,List.length_singleton];omega
def Ph:V→List V→Hp→VK→Prop:=λx vs H Q=>∃l xs y,x=.ref l∧vs=[]∧H l=some (.lst xs)∧xs[xs.length-1]?=some y∧Q y (upd H l (.lst xs.dropLast))
def ZH:Gm X "list.pop" Ph:=by
 intro pins s σ H x vs v us Q I rx rv h;let⟨l,xs,y,rfl,rfl,hH,hy,q⟩:=h;cases rx;let Gn:=rv.zero;subst Gn;let⟨z,its,n,r,hl,e⟩:=I.EJ hH;let⟨u,hu,ru⟩:=r.get hy;let Gp:its.toArray[its.toArray.size-1]?=some u:=by
  show its.toArray[its.length-1]?=some u;rw[←n9,←hl];exact hu
 refine call_meets F.slot_list_pop ⟨_,e,rfl⟩ F.entry_list_pop (F.args_list_pop_1 _) (MeetsSeq.list_pop_last l its.toArray n u Gp (by rw[gE];omega)) ⟨e,?_⟩;refine⟨y,_,I.EI (its':=its.dropLast) hH e ?_ r.dropLast ?_,ru,q⟩
 ·show its.toArray.eraseIdxIfInBounds (its.toArray.size-1)=its.dropLast.toArray;rw[gE,List.eraseIdxIfInBounds_toArray,Uu]
 ·rw[List.length_dropLast];omega
def Ka:V→List V→Hp→VK→Prop:=λx vs H Q=>∃l xs,x=.ref l∧vs=[]∧H l=some (.lst xs)∧Q .non (upd H l (.lst xs.reverse))
def Uv:Gm X "list.reverse" Ka:=by
 intro pins s σ H x vs v us Q I rx rv h;let⟨l,xs,rfl,rfl,hH,q⟩:=h;cases rx;let Gn:=rv.zero;subst Gn;let⟨z,its,n,r,hl,e⟩:=I.EJ hH;refine call_meets F.slot_list_reverse ⟨_,e,rfl⟩ F.entry_list_reverse (F.args_list_reverse_1 _) (AutoSeq1.list_reverse_list_0 l its.toArray n (by rw[gE];omega)) ⟨e,?_⟩;refine⟨.non,_,I.EI (its':=its.reverse) hH e (by simp) r.reverse ?_,rfl,q⟩;rw[List.length_reverse];omega
end
section
variable {prog:Program}{w:World}{A:Around}{E:Qzx}{s:Shared}
end
section
variable {X:Cx}
end
section
variable {κ:Type}[DecidableEq κ]
abbrev fG(aj:List (κ×V))(k:κ):Option V:=(aj.find? λkv=>decide (kv.1=k)).map (·.2)
abbrev putK(aj:List (κ×V))(k:κ)(v:V):List (κ×V) :=
 if (aj.any λkv=>decide (kv.1=k))=true then aj.map (λkv=>if kv.1=k then (kv.1,v)else kv)else aj++[(k,v)]
abbrev aes(aj:List (κ×V))(k:κ):List (κ×V):=aj.filter λkv=>decide (kv.1≠k)
def yg{p:κ×V}{r:List (κ×V)}{k:κ}(e:p.1=k):fG (p::r) k=some p.2:=by simp[fG,List.find?_cons,e]
def yh{p:κ×V}{r:List (κ×V)}{k:κ}(e:¬p.1=k):fG (p::r) k=fG r k:=by simp[fG,List.find?_cons,e]
theorem Kc(k:κ):∀aj:List (κ×V),(aj.any λkv=>decide (kv.1=k))=(fG aj k).isSome
 |[]=>rfl
 |p::r=>by
  rw[qa];by_cases e:p.1=k
  ·simp only[yg e,decide_eq_true e,Bool.true_or,Option.isSome_some]
  ·rw[yh e,eQ e,Bool.false_or];exact Kc k r
def xW(aj:List (κ×V))(k:κ)(v:V):(putK aj k v).length≤aj.length+1:=by
 unfold putK;split
 ·rw[eU];omega
 ·rw[fw,gf,List.length_nil];omega
def jo.ug{o:Option V}{u:Option Value}(r:jo o u):o.isSome=u.isSome:=by
 cases o with
 |none=>cases u with
  |none=>rfl
  |some _=>exact(show False from r).elim
 |some _=>cases u with
  |none=>exact(show False from r).elim
  |some _=>rfl
theorem jo.getD{o:Option V}{u:Option Value}{d:V}{d':Value}(r:jo o u)(rd:RelV d d'):RelV (o.getD d) (u.getD d'):=by
 cases o with
 |none=>cases u with
  |none=>exact rd
  |some _=>exact(show False from r).elim
 |some _=>cases u with
  |none=>exact(show False from r).elim
  |some _=>exact r
def KV.val{aj:List (κ×V)}{vs:List (κ×Value)}(r:KV aj vs)(k:κ):jo (fG aj k) (valueAt vs k):=by
 unfold KV at r
 induction r with
 |nil=>exact True.intro
 |@cons p q ps qs h t ih =>
  let⟨h1,h2⟩:=h;by_cases e:p.1=k
  ·let e':q.1=k:=h1.symm.trans e;let b:valueAt (q::qs) k=some q.2:=by simp[valueAt,List.find?_cons,e']
   rw[yg e,b];exact h2
  ·let e':¬q.1=k:=λz=>e (h1.trans z);let b:valueAt (q::qs) k=valueAt qs k:=by simp[valueAt,List.find?_cons,e']
   rw[yh e,b];exact ih
theorem KV.any{aj:List (κ×V)}{vs:List (κ×Value)}(r:KV aj vs)(k:κ):(aj.any λkv=>decide (kv.1=k))=vs.any λkv=>decide (kv.1=k):=by
 unfold KV at r
 induction r with
 |nil=>rfl
 |cons h t ih=>rw[qa,qa,ih,h.1]
def KV.repl{aj:List (κ×V)}{vs:List (κ×Value)}(r:KV aj vs)(k:κ){y:V}{u:Value}(ry:RelV y u) :
  KV (aj.map λkv=>if kv.1=k then (kv.1,y)else kv) (vs.map λkv=>if kv.1=k then (kv.1,u)else kv):=by
 unfold KV at r ⊢
 induction r with
 |nil=>exact .nil
 |@cons p q ps qs h t ih =>
  rw[dA,dA];refine .cons ?_ ih;let⟨h1,h2⟩:=h;by_cases e:p.1=k
  ·rw[if_pos e,if_pos (h1.symm.trans e)];exact⟨h1,ry⟩
  ·rw[if_neg e,if_neg (λz=>e (h1.trans z))];exact⟨h1,h2⟩
def KV.put{aj:List (κ×V)}{vs:List (κ×Value)}(r:KV aj vs)(k:κ){y:V}{u:Value}(ry:RelV y u):KV (putK aj k y) (stored vs k u):=by
 unfold putK stored;rw[r.any k];by_cases e:(vs.any λkv=>decide (kv.1=k))=true
 ·rw[if_pos e,if_pos e];exact r.repl k ry
 ·rw[if_neg e,if_neg e];exact Paired.snoc r ⟨rfl,ry⟩
def KV.keys{aj:List (κ×V)}{vs:List (κ×Value)}(r:KV aj vs):aj.map (·.1)=vs.map (·.1):=by
 unfold KV at r
 induction r with
 |nil=>rfl
 |cons h t ih=>rw[dA,dA,ih,h.1]
theorem KV.length{aj:List (κ×V)}{vs:List (κ×Value)}(r:KV aj vs):aj.length=vs.length:=cM r
end
def ph{P:Program}{w:World}{k:Key}{u:Value}(r:RelV (kV k) u):(cN P w).is k u=true:=by
 cases k with
 |inl i=>let⟨t,e⟩:=(show ∃t,u=Value.int i t from r);subst e;exact T7 P w i t
 |inr x=>let⟨t,e⟩:=(show ∃t,u=Value.str x t from r);subst e;exact T8 P w x t
 |non=>rw[show u=Value.none from r];exact T9 P w
theorem Jy{P:Program}{w:World}:∀{ks:List Key}{us:Qxz},Vals (ks.map kV) us→ItemsAre (cN P w) ks us
 |[],_,r=>by rw[F0]at r;cases r;exact .nil
 |k::ks,_,r=>by
  rw[dA]at r;cases r with
  |cons h t=>exact .cons (ph h) (Jy t)
@[reducible]def KT(H:Hp):List (List Key×V)→List (List Key×Addr×Value)→Prop:=Paired λp q=>p.1=q.1∧H q.2.1=some (.tup (p.1.map kV))∧RelV p.2 q.2.2
def KT.val{H:Hp}{aj:List (List Key×V)}{xs:List (List Key×Addr×Value)}(r:KT H aj xs)(k:List Key):jo (fG aj k) ((atKey xs k).map (·.2)):=by
 induction r with
 |nil=>exact True.intro
 |@cons p q ps qs h t ih =>
  let⟨h1,_,h2⟩:=h;by_cases e:p.1=k
  ·let e':q.1=k:=h1.symm.trans e;let b:atKey (q::qs) k=some q.2:=by simp[atKey,List.find?_cons,e']
   rw[yg e,b];exact h2
  ·let e':¬q.1=k:=λz=>e (h1.trans z);let b:atKey (q::qs) k=atKey qs k:=by simp[atKey,List.find?_cons,e']
   rw[yh e,b];exact ih
def KT.repl{H:Hp}{aj:List (List Key×V)}{xs:List (List Key×Addr×Value)}(r:KT H aj xs)(k:List Key){y:V}{u:Value}(ry:RelV y u) :
  KT H (aj.map λkv=>if kv.1=k then (kv.1,y)else kv) (xs.map (putAt k u)):=by
 induction r with
 |nil=>exact .nil
 |@cons p q ps qs h t ih =>
  rw[dA,dA];refine .cons ?_ ih;let⟨h1,h2,h3⟩:=h;unfold putAt;by_cases e:p.1=k
  ·rw[if_pos e,if_pos (h1.symm.trans e)];exact⟨h1,h2,ry⟩
  ·rw[if_neg e,if_neg (λz=>e (h1.trans z))];exact⟨h1,h2,h3⟩
def KT.put{H:Hp}{aj:List (List Key×V)}{xs:List (List Key×Addr×Value)}(r:KT H aj xs)(k:List Key){b:Addr}{y:V}{u:Value}(hb:H b=some (.tup (k.map kV)))(ry:RelV y u) :
  KT H (putK aj k y) (storedH xs k b u):=by
 let e:(aj.any λkv=>decide (kv.1=k))=(atKey xs k).isSome:=by
  rw[Kc,(r.val k).ug,Ad]
 unfold putK storedH;rw[e];by_cases q:(atKey xs k).isSome=true
 ·rw[if_pos q,if_pos q];exact r.repl k ry
 ·rw[if_neg q,if_neg q];exact Paired.snoc r ⟨rfl,hb,ry⟩
def KT.keeps{H H':Hp}{aj:List (List Key×V)}{xs:List (List Key×Addr×Value)}(r:KT H aj xs)(ht:∀b ys,H b=some (.tup ys)→H' b=some (.tup ys)):KT H' aj xs :=
 Paired.mE r λ_ _ z=>⟨z.1,ht _ _ z.2.1,z.2.2⟩
section
variable {P:Program}{w:World}{H:Hp}{h:Heap}{a:Addr}
def Oe{u:HO}(ok:cX P w H h)(e:Rd H a u):cK P w H h a u:=e.ok ok
def pj{aj:List (Key×V)}(ok:cX P w H h)(e:Rd H a (.dK aj)):aj.length≤sizeLine∧(a==sysModules)=false∧∃vs,KV aj vs∧h.DictOf (cN P w) a vs :=
 show cK P w H h a (.dK aj)from Oe ok e
def Og{aj:List (Key×V)}(ok:cX P w H h)(e:H a=some (.dK aj)):aj.length≤sizeLine∧(a==sysModules)=false∧∃vs,KV aj vs∧h.DictOf (cN P w) a vs:=pj ok (.inl e)
def qT{ks:List Key}(ok:cX P w H h)(e:H a=some (.tup (ks.map kV))):(tupleKind (cN P w)).is h ks a:=by
 let⟨_,its,r,o,h1,h2,_,n,h3⟩:=(show cK P w H h a (.tup (ks.map kV))from ok a _ e);exact⟨o,its.toArray,n,h1,h2,h3,by simpa using Jy r⟩
def nH{aj:List (List Key×V)}(ok:cX P w H h)(e:Rd H a (.dT aj)):aj.length≤sizeLine∧(a==sysModules)=false ∧
  ∃xs,KT H aj xs∧h.DictOfH (tupleKind (cN P w)) a xs:=by
 let⟨z,y,xs,r,o,es,ep,h1,h2,h3,h4,h5⟩:=(show cK P w H h a (.dT aj)from Oe ok e);refine⟨z,y,xs,r,o,es,ep,h1,h2,h3,h4,λx hx=>?_,h5⟩;let all:∀{l:List (List Key×V)}{m:List (List Key×Addr×Value)},KT H l m→∀x∈m,(tupleKind (cN P w)).is h x.1 x.2.1:=by
  intro l m q
  induction q with
  |nil=>intro x hx;exact nomatch hx
  |@cons p q ps qs hq t ih =>
   intro x hx;rcases dN.mp hx with e|hx
   ·subst e;exact qT ok (by rw[←hq.1];exact hq.2.1)
   ·exact ih x hx
 exact all r x hx
def abT{aj:List (List Key×V)}(ok:cX P w H h)(e:H a=some (.dT aj)):aj.length≤sizeLine∧(a==sysModules)=false ∧
 ∃xs,KT H aj xs∧h.DictOfH (tupleKind (cN P w)) a xs:=nH ok (.inl e)
end
def iW(H:Hp)(a:Addr)(y:V)(r:Option V):Prop :=
 (∃aj k,Rd H a (.dK aj)∧y=kV k∧r=fG aj k)∨∃aj k b,Rd H a (.dT aj)∧y=.ref b∧H b=some (.tup (k.map kV))∧r=fG aj k
def rL(H:Hp)(a:Addr)(y v:V)(H':Hp):Prop :=
 (∃aj k,H a=some (.dK aj)∧y=kV k∧aj.length<sizeLine∧H'=upd H a (.dK (putK aj k v))) ∨
 ∃aj k b,H a=some (.dT aj)∧y=.ref b∧H b=some (.tup (k.map kV))∧aj.length<sizeLine∧H'=upd H a (.dT (putK aj k v))
theorem iW.k{H:Hp}{a:Addr}{aj:List (Key×V)}{k:Key}(e:H a=some (.dK aj)):iW H a (kV k) (fG aj k):=.inl ⟨aj,k,.inl e,rfl,rfl⟩
def iW.t{H:Hp}{a b:Addr}{aj:List (List Key×V)}{k:List Key}(e:H a=some (.dT aj))(eb:H b=some (.tup (k.map kV))):iW H a (.ref b) (fG aj k):=.inr ⟨aj,k,b,.inl e,rfl,eb,rfl⟩
theorem rL.k{H:Hp}{a:Addr}{aj:List (Key×V)}{k:Key}{v:V}(e:H a=some (.dK aj))(hl:aj.length<sizeLine):rL H a (kV k) v (upd H a (.dK (putK aj k v))):=.inl ⟨aj,k,e,rfl,hl,rfl⟩
def rL.t{H:Hp}{a b:Addr}{aj:List (List Key×V)}{k:List Key}{v:V}(e:H a=some (.dT aj))(eb:H b=some (.tup (k.map kV)))(hl:aj.length<sizeLine) :
 rL H a (.ref b) v (upd H a (.dT (putK aj k v))):=.inr ⟨aj,k,b,e,rfl,eb,hl,rfl⟩
section
variable {X:Cx}{pins:Qxq}{σ:St}{H:Hp}{s:Shared}{a:Addr}{y v:V}{u r:Value}{o:Option V}{A:Around}{E:Qzx}
def Inv.big(I:Inv X pins σ H s):sysModules<s.heap.objs.size:=by
 let h:mainGlobals<s.heap.objs.size:=(I.mod.glob.keeps I.bk).lt;exact Nat.lt_trans (by decide) h
def UX{Q:Qzx}(hu:A.units+1<cLine)(I:Inv X pins σ H s)(g:iW H a y (some v))(ry:RelV y u)(h:∀w' s',Inv X pins σ H s'→RelV v w'→Q w' s') :
  wpAny (model X.prog X.w) A (getItem (.ref a) u) Q E s:=by
 rcases g with⟨aj,k,e,ey,l⟩|⟨aj,k,b,e,ey,eb,l⟩
 ·subst ey;let⟨z,hd,vs,rel,dd⟩:=pj I.aH e;let⟨w',hw,kE⟩:=jo.some_of (v:=v) (o:=valueAt vs k) (by rw[l];exact rel.val k);exact wpAny_getItem_of (ph ry) dd.mapOf hw (h w' _ (I.tok _) kE)
 ·subst ey;cases (show u=Value.ref b from ry);let⟨z,hd,xs,rel,dd⟩:=nH I.aH e;let⟨w',hw,kE⟩:=jo.some_of (v:=v) (o:=(atKey xs k).map (·.2)) (by rw[l];exact rel.val k);let⟨p,hp,qi⟩:=Option.map_eq_some_iff.mp hw;refine wpAny_getItem_heap (vK hu) (qT I.aH eb) dd hp ?_;rw[qi];exact h w' _ (I.tok _) kE
def adE{Q:Qzx}(hu:A.units+1<cLine)(I:Inv X pins σ H s)(g:iW H a y o)(ry:RelV y u)(h:∀s',Inv X pins σ H s'→Q (.bool o.isSome) s') :
  wpAny (model X.prog X.w) A (compareOp .In u (.ref a)) Q E s:=by
 rcases g with⟨aj,k,e,ey,l⟩|⟨aj,k,b,e,ey,eb,l⟩
 ·subst ey;let⟨z,hd,vs,rel,dd⟩:=pj I.aH e;refine wpAny_in_of (ph ry) hd dd.mapOf ?_;rw[←(rel.val k).ug,←l];exact h _ (I.tok _)
 ·subst ey;cases (show u=Value.ref b from ry);let⟨z,hd,xs,rel,dd⟩:=nH I.aH e;refine wpAny_in_heap (vK hu) (qT I.aH eb) hd dd ?_;let q:=(rel.val k).ug;rw[Ad]at q;rw[←q,←l];exact h _ (I.tok _)
def Xj{Q:Qzx}(hu:A.units+1<cLine)(I:Inv X pins σ H s)(g:iW H a y o)(ry:RelV y u)(h:∀s',Inv X pins σ H s'→Q (.bool (!o.isSome)) s') :
  wpAny (model X.prog X.w) A (compareOp .NotIn u (.ref a)) Q E s:=by
 rcases g with⟨aj,k,e,ey,l⟩|⟨aj,k,b,e,ey,eb,l⟩
 ·subst ey;let⟨z,hd,vs,rel,dd⟩:=pj I.aH e;refine wpAny_notIn_of (ph ry) hd dd.mapOf ?_;rw[←(rel.val k).ug,←l];exact h _ (I.tok _)
 ·subst ey;cases (show u=Value.ref b from ry);let⟨z,hd,xs,rel,dd⟩:=nH I.aH e;refine wpAny_notIn_heap (vK hu) (qT I.aH eb) hd dd ?_;let q:=(rel.val k).ug;rw[Ad]at q;rw[←q,←l];exact h _ (I.tok _)
def Dl{h':Heap}{t':Nat}{ob:HO}(I:Inv X pins σ H s)(mu:vV (H a))(hs:Heap.SameBut a s.heap h')(he:∃q,h'.get? a=some q)(new:cK X.prog X.w (upd H a ob) h' a ob) :
  Inv X pins σ (upd H a ob) { s with heap:=h',toks:=t' } :=
 I.write (x:=a) (e:=a) mu (.inl rfl) (λb q hb z=>(hs.2 b hb).trans z) he new
def MF{P:Program}{w:World}{H':Hp}{h':Heap}{aj:List (Key×V)}{vs:List (Key×Value)}(z:aj.length≤sizeLine)(hd:(a==sysModules)=false)(rel:KV aj vs)(dd:h'.DictOf (cN P w) a vs) :
 cK P w H' h' a (.dK aj):=⟨z,hd,vs,rel,dd⟩
def UY{H':Hp}{Q:Unit→Shared→Prop}(hu:A.units+1<cLine)(I:Inv X pins σ H s)(g:rL H a y v H')(ry:RelV y u)(rv:RelV v r)(h:∀s',Inv X pins σ H' s'→Q () s') :
  wpAny (model X.prog X.w) A (setItem (.ref a) u r) Q E s:=by
 rcases g with⟨aj,k,e,ey,l,eH⟩|⟨aj,k,b,e,ey,eb,l,eH⟩
 ·subst ey eH;let⟨z,hd,vs,rel,dd⟩:=Og I.aH e;let hz:vs.length≤sizeLine:=by rw[←rel.length];exact z
  let hl:(putK aj k v).length≤sizeLine:=by have:=xW aj k v;omega
  refine wpAny_setItem_pairs (hsz:=hz) (ph ry) dd λh' qj hs=>h _ ?_;let he:∃q,h'.get? a=some q:=let ⟨q,_,_,hq,_⟩:=qj;⟨q,hq⟩
  exact Dl I (by rw[e];exact True.intro) hs he (MF hl hd (rel.put k rv) qj)
 ·subst ey eH;cases (show u=Value.ref b from ry);let⟨z,hd,xs,rel,dd⟩:=abT I.aH e;let hz:xs.length≤sizeLine:=by rw[←cM rel];exact z
  let hl:(putK aj k v).length≤sizeLine:=by have:=xW aj k v;omega
  refine wpAny_setItem_heap (hsz:=hz) (vK hu) (qT I.aH eb) dd λh' qj hs=>h _ ?_;let⟨q,es,ep,hq,h2,h3,h4,_,h5⟩:=qj;refine Dl I (by rw[e];exact True.intro) hs ⟨q,hq⟩ ⟨hl,hd,_,(rel.put k eb rv).keeps λc ys ec=>?_,q,es,ep,hq,h2,h3,h4,h5⟩;rw[aI (rj ec e (λz=>nomatch z))];exact ec
end
section
variable {X:Cx}{pins:Qxq}{σ:St}{H:Hp}{s:Shared}{a:Addr}{aj:List (Key×V)}{k:Key}{u:Value}{A:Around}{E:Qzx}
end
def EK(i:Expr):Prop:=∀ov iv,subscripted i false ov iv=operate [ov,iv] (getItem ov iv)
def Xk{prog:Program}{w:World}{A:Around}{E:Qzx}{s:Shared}{env:Env}{value slice:Expr}{pos:Pos}{T id:String}{Q:Qzx}
  (hl:typeLookup (.type T) "__getitem__" = pure (some (.builtin id))) (hs:EK slice)
  (h:wpAny (model prog w) A (eval value env) (λo s₁=>wpAny (model prog w) A (eval slice env) (λi s₂=>s₂.TypeIs o T∧wpAny (model prog w) A (getItem o i) Q E s₂) E s₁) E s) :
  wpAny (model prog w) A (eval (.Subscript value slice pos) env) Q E s:=by
 refine Subscript_ (gb h (λo s₁ h₁=>gb h₁ (λi s₂ h₂=>?_) λ_ _ x=>x) λ_ _ x=>x);let⟨hT,h₂⟩:=h₂;unfold subscriptTail;refine aA ?_;rw[getitemInPython_of_ne hT.not_modules];refine aA (FE hT hl ?_);let fin:wpAny (model prog w) A (subscripted slice false o i) (λr s₃=>wpAny (model prog w) A (letTemporaryGo value o r >>= λ_=>pure r) Q E s₃) E s₂:=by
  rw[hs o i];exact wpAny_operating (gb h₂ (λr s₃ h₃=>aA (wpAny_letTemporaryGo (aO h₃))) λ_ _ x=>x)
 first
  |exact aO (aA fin)
  |exact aA (aO (aA fin))
  |exact aA fin
def Ua{X:Cx}{pins:Qxq}{σ:St}{H:Hp}{s:Shared}{a:Addr}{y:V}{o:Option V}(I:Inv X pins σ H s)(g:iW H a y o):s.TypeIs (.ref a) "dict" := by
 rcases g with⟨aj,k,e,_,_⟩|⟨aj,k,b,e,_,_,_⟩
 ·let⟨_,_,vs,_,dd⟩:=pj I.aH e;exact dd.typeIs
 ·let⟨_,_,xs,_,dd⟩:=nH I.aH e;exact dd.typeIs
abbrev Ee(td ty:TE):TE:=λσ H Q=>td σ H λx H1=>ty σ H1 λy H2=>∃a v,x=.ref a∧iW H2 a y (some v)∧Q v H2
abbrev EL(ty td:TE):TE:=λσ H Q=>ty σ H λy H1=>td σ H1 λx H2=>∃a o,x=.ref a∧iW H2 a y o∧Q (.bl o.isSome) H2
abbrev Dm(ty td:TE):TE:=λσ H Q=>ty σ H λy H1=>td σ H1 λx H2=>∃a o,x=.ref a∧iW H2 a y o∧Q (.bl (!o.isSome)) H2
abbrev u9(td ty tv:TE):TS:=λD σ H=>tv σ H λv H1=>td σ H1 λx H2=>ty σ H2 λy H3=>∃a H4,x=.ref a∧rL H3 a y v H4∧D.nx σ H4
section
variable {X:Cx}{o i e value:Expr}{pos pos' ady:Pos}{td ty tv:TE}
def K9(hu:X.A.units+1<cLine)(ho:PE X o td)(hi:PE X i ty)(hs:EK i):PE X (.Subscript o i pos) (Ee td ty):=by
 intro pins s σ H Q I h;refine Xk PySem.F.slot_dict_getitem.lookup hs (aK (ho pins s σ H _ I h) λu s1 ⟨x,H1,I1,rx,q1⟩=>aK (hi pins s1 σ H1 _ I1 q1) λiv s2 ⟨y,H2,I2,ry,a,v,ex,g,q2⟩=>?_);subst ex;obtain rfl:u=Value.ref a:=rx;exact⟨Ua I2 g,UX hu I2 g ry λw' s3 I3 kE=>⟨v,H2,I3,kE,q2⟩⟩
def MG(hu:X.A.units+1<cLine)(hi:PE X i ty)(ho:PE X o td):PC X .In i o (EL ty td):=by
 intro pins s σ H Q I h;refine aK (hi pins s σ H _ I h) λiv s1 ⟨y,H1,I1,ry,q1⟩=>aK (ho pins s1 σ H1 _ I1 q1) λu s2 ⟨x,H2,I2,rx,a,ov,ex,g,q2⟩=>?_;subst ex;obtain rfl:u=Value.ref a:=rx;exact adE hu I2 g ry λs3 I3=>⟨.bl ov.isSome,H2,I3,rfl,q2⟩
def Jz(hu:X.A.units+1<cLine)(hi:PE X i ty)(ho:PE X o td):PC X .NotIn i o (Dm ty td):=by
 intro pins s σ H Q I h;refine aK (hi pins s σ H _ I h) λiv s1 ⟨y,H1,I1,ry,q1⟩=>aK (ho pins s1 σ H1 _ I1 q1) λu s2 ⟨x,H2,I2,rx,a,ov,ex,g,q2⟩=>?_;subst ex;obtain rfl:u=Value.ref a:=rx;exact Xj hu I2 g ry λs3 I3=>⟨.bl (!ov.isSome),H2,I3,rfl,q2⟩
def Xl(hu:X.A.units+1<cLine)(ho:PE X o td)(hi:PE X i ty)(hv:PE X value tv)(hs:swapsWith value (some (.Subscript o i pos')) pos.line X.env=pure false) :
  PS X (.Assign [.Subscript o i pos'] value pos) (u9 td ty tv):=by
 intro pins s σ H D I h;refine wpAny_Assign_Subscript (aK (hv pins s σ H _ I h) λr s1 ⟨v,H1,I1,rv,q1⟩=>aK (ho pins s1 σ H1 _ I1 q1) λu s2 ⟨x,H2,I2,rx,q2⟩=>aK (hi pins s2 σ H2 _ I2 q2) λiv s3 ⟨y,H3,I3,ry,a,H4,ex,g,q3⟩=>?_) hs;subst ex;obtain rfl:u=Value.ref a:=rx;exact UY hu I3 g ry rv λs4 I4=>⟨σ,H4,I4,q3⟩
end
def Kd{P:Program}{w:World}{H:Hp}(h:Heap)(hb:sysModules<h.objs.size):cK P w H (h.push { cls:=.type "dict",data:=.dict #[] }) h.objs.size (.dK []) :=
 ⟨jE _,beq_eq_false_iff_ne.mpr (lG (fH hb)),[],.nil,Heap.DictOf.new h⟩
def VF{P:Program}{w:World}{H:Hp}(h:Heap)(hb:sysModules<h.objs.size):cK P w H (h.push { cls:=.type "dict",data:=.dict #[] }) h.objs.size (.dT []) :=
 ⟨jE _,beq_eq_false_iff_ne.mpr (lG (fH hb)),[],.nil,_,#[],0,gD _ rfl,⟨rfl,rfl,rfl⟩,rfl,rfl,sr⟩
def MH:TE:=λ_ H Q=>∀p,H p=none→Q (.ref p) (upd H p (.dK []))
def MJ:TE:=λ_ H Q=>∀p,H p=none→Q (.ref p) (upd H p (.dT []))
section
variable {X:Cx}{pos:Pos}
def VG:PE X (.Dict [] [] pos) MH:=λpins s σ H Q I h =>
 wpAny_Dict_empty ⟨.ref s.heap.objs.size,_,I.laid (a:=s.heap.objs.size) (o:=.dK []) (t':=s.toks) (λ_ _ q=>cG _ q) (aW _) (Kd s.heap I.big),rfl,h _ (I.aH.fresh (aW _))⟩
def VH:PE X (.Dict [] [] pos) MJ:=λpins s σ H Q I h =>
 wpAny_Dict_empty ⟨.ref s.heap.objs.size,_,I.laid (a:=s.heap.objs.size) (o:=.dT []) (t':=s.toks) (λ_ _ q=>cG _ q) (aW _) (VF s.heap I.big),rfl,h _ (I.aH.fresh (aW _))⟩
end
abbrev DV:List (TE×TE)→St→Hp→(List (V×V)→Hp→Prop)→Prop
 |[],_,H,Q=>Q [] H
 | (tk,tv)::r,σ,H,Q=>tk σ H λx H1=>tv σ H1 λy H2=>DV r σ H2 λps H3=>Q ((x,y)::ps) H3
@[reducible]def VV:List (V×V)→List (Value×Value)→Prop:=Paired λp q=>RelV p.1 q.1∧RelV p.2 q.2
def wc(X:Cx)(pos:Pos)(keys:List (Option Expr))(values:Qjq)(m3:List (TE×TE)):Prop :=
 ∀(pins:Qxq) (s:Shared) (σ:St) (H:Hp) (Q:List (V×V)→Hp→Prop),Inv X pins σ H s→DV m3 σ H Q →
  wpAny (model X.prog X.w) X.A (evalPairs (pairTrees keys values X.env pos)) (λvs s'=>∃ps H',Inv X pins σ H' s'∧VV ps vs∧Q ps H') X.xe s
def La{X:Cx}{pos:Pos}:wc X pos [] [] []:=λpins s σ H Q I h=>pairTrees_nil_walk ⟨[],H,I,.nil,h⟩
def Ke{X:Cx}{pos:Pos}{k v:Expr}{ks:List (Option Expr)}{vs:Qjq}{tk tv:TE}{m3:List (TE×TE)}(hk:PE X k tk)(hv:PE X v tv)(hr:wc X pos ks vs m3) :
  wc X pos (some k::ks) (v::vs) ((tk,tv)::m3):=λpins s σ H Q I h =>
 pairTrees_cons_walk (aK (hk pins s σ H _ I h) λu s1 ⟨x,H1,I1,rx,q1⟩=>aK (hv pins s1 σ H1 _ I1 q1) λw2 s2 ⟨y,H2,I2,ry,q2⟩ =>
  aK (hr pins s2 σ H2 _ I2 q2) λws s3 ⟨ps,H3,I3,rel,q3⟩=>⟨(x,y)::ps,H3,I3,.cons ⟨rx,ry⟩ rel,q3⟩)
def qU(aj more:List (Key×V)):List (Key×V):=more.foldl (λacc kv=>putK acc kv.1 kv.2) aj
def KV.merge:∀{more:List (Key×V)}{rs:List (Key×Value)}{aj:List (Key×V)}{vs:List (Key×Value)},KV more rs→KV aj vs→KV (qU aj more) (merged vs rs):=by
 intro more rs aj vs r;unfold KV at r
 induction r generalizing aj vs with
 |nil=>intro q;exact q
 |@cons p q ps qs h t ih =>
  intro r0;let e:KV (putK aj p.1 p.2) (stored vs q.1 q.2):=by
   have:=r0.put p.1 h.2;rw[←h.1];exact this
  exact ih e
theorem Ia:∀(more aj:List (Key×V)),(qU aj more).length≤aj.length+more.length
 |[],aj=>by show aj.length≤aj.length+0;omega
 |p::r,aj=>by
  let h1:=Ia r (putK aj p.1 p.2);let h2:=xW aj p.1 p.2;show(qU (putK aj p.1 p.2) r).length≤_;rw[gf];omega
theorem IV{P:Program}{w:World}:∀{aj:List (Key×V)}{ws:List (Value×Value)},VV (aj.map λkv=>(kV kv.1,kv.2)) ws→∃rs,Carries (cN P w) ws rs∧KV aj rs
 |[],_,r=>by rw[F0]at r;cases r;exact⟨[],True.intro,.nil⟩
 |p::aj,_,r=>by
  rw[dA]at r;cases r with
  |@cons a b as bs h t =>
   let⟨rs,c,q⟩:=IV (P:=P) (w:=w) t;let⟨b1,b2⟩:=b;exact⟨(p.1,b2)::rs,⟨ph h.1,rfl,c⟩,.cons ⟨rfl,h.2⟩ q⟩
def Oh(m3:List (TE×TE)):TE:=λσ H Q=>∀p,H p=none→DV m3 σ (upd H p (.dK [])) λps H2=>H2 p=some (.dK [])∧∃aj:List (Key×V),ps=aj.map (λkv=>(kV kv.1,kv.2))∧aj.length≤15∧Q (.ref p) (upd H2 p (.dK (qU [] aj)))
def Xm{X:Cx}{pos:Pos}{keys:List (Option Expr)}{values:Qjq}{m3:List (TE×TE)}(h:wc X pos keys values m3)(ER:keys.all (·.isSome)=true)(hl:keys.length=values.length)(h0:keys≠[])
  (h15:keys.length≤15):PE X (.Dict keys values pos) (Oh m3):=by
 intro pins s σ H Q I q;let hn:=I.aH.fresh (aW s.heap.objs.size);let I1:=I.laid (a:=s.heap.objs.size) (o:=.dK []) (h':=s.heap.push { cls:=.type "dict",data:=.dict #[] }) (t':=s.toks) (λ_ _ q=>cG _ q) (aW _) (Kd s.heap I.big);refine wpAny_Dict_walk (knd:=cN X.prog X.w) ER hl h0 h15 (aK (h pins _ σ _ _ I1 (q _ hn)) λws s2 ⟨ps,H2,I2,rel,e,aj,ep,lk,q2⟩=>?_);subst ep;let⟨rs,c,rk⟩:=IV (P:=X.prog) (w:=X.w) rel;let⟨z,hd,vs0,r0,dd⟩:=Og I2.aH e;cases r0;refine⟨rs,c,dd,λh' qj hs=>⟨.ref s.heap.objs.size,_,?_,rfl,q2⟩⟩;let hz:(qU [] aj).length≤sizeLine:=by
  let h1:=Ia aj [];rw[List.length_nil]at h1;rw[p7];omega
 let he:∃q,h'.get? s.heap.objs.size=some q:=let ⟨q,_,_,hq,_⟩:=qj;⟨q,hq⟩
 exact Dl I2 (by rw[e];exact True.intro) hs he (MF hz hd (rk.merge .nil) qj)
structure M1 (X:Cx)(o:Expr)(m:Str)(apos:Pos)(e:Expr)(dF:Pos):Prop where
 base:attributeBase o m X.env (eval o X.env)=eval o X.env
 few:((backTo dF (starEach [e] X.env)).all (λx=>!x.1)&&(backToKw dF (keywordEach [] X.env)).all (λx=>x.1.isSome)
  && decide (([e]:Qjq).length+([]:List Keyword).length+(if ([]:List Keyword).isEmpty then 0 else 1)<30))=true
 line:(apos.endLine==dF.line)=true
 trees:backTo dF (starEach [e] X.env)=[(false,eval e X.env)]
structure M2 (X:Cx)(o:Expr)(m:Str)(apos:Pos)(e f:Expr)(dF:Pos):Prop where
 base:attributeBase o m X.env (eval o X.env)=eval o X.env
 few:((backTo dF (starEach [e,f] X.env)).all (λx=>!x.1)&&(backToKw dF (keywordEach [] X.env)).all (λx=>x.1.isSome)
  && decide (([e,f]:Qjq).length+([]:List Keyword).length+(if ([]:List Keyword).isEmpty then 0 else 1)<30))=true
 line:(apos.endLine==dF.line)=true
 trees:backTo dF (starEach [e,f] X.env)=[(false,eval e X.env),(false,eval f X.env)]
def QN(H:Hp)(a:Addr):Prop:=(∃aj,Rd H a (.dK aj))∨∃aj,Rd H a (.dT aj)
def ZI{X:Cx}{pins:Qxq}{σ:St}{H:Hp}{s:Shared}{a:Addr}(I:Inv X pins σ H s)(d:QN H a) :
  s.TypeIs (.ref a) "dict" ∧ (∀b,Value.ref a=.ref b→∃ob,s.heap.get? b=some ob∧ob.dict=none)∧(a==sysModules)=false:=by
 rcases d with⟨aj,e⟩|⟨aj,e⟩
 ·let⟨_,hd,vs,_,dd⟩:=pj I.aH e;refine⟨dd.typeIs,λb q=>?_,hd⟩;cases q;let⟨ob,_,_,h1,h2,_⟩:=dd;exact⟨ob,h1,h2.2.1⟩
 ·let⟨_,hd,xs,_,dd⟩:=nH I.aH e;refine⟨dd.typeIs,λb q=>?_,hd⟩;cases q;let⟨ob,_,_,h1,h2,_⟩:=dd;exact⟨ob,h1,h2.2.1⟩
section
variable {X:Cx}{pins:Qxq}{σ:St}{H:Hp}{s:Shared}{a:Addr}{y d:V}{u r:Value}{o:Option V}{A:Around}{E:Qzx}
def ZJ{Q:Qzx}(hu:A.units+1<cLine)(I:Inv X pins σ H s)(g:iW H a y o)(ry:RelV y u)(rd:RelV d r)(h:∀w' s',Inv X pins σ H s'→RelV (o.getD d) w'→Q w' s') :
  wpAny (model X.prog X.w) A (call (.builtin "dict.get") [.ref a,u,r]) Q E s:=by
 rcases g with⟨aj,k,e,ey,l⟩|⟨aj,k,b,e,ey,eb,l⟩
 ·subst ey;let⟨z,hd,vs,rel,dd⟩:=pj I.aH e;refine call_meetsIn Ae dd.typeIs F1 (F2 _ _ _) (meets_dict_get_default (cN X.prog X.w) a (ph ry) hd r) ⟨_,dd.mapOf,h _ _ (I.tok _) ?_⟩;rw[l];exact(rel.val k).getD rd
 ·subst ey;cases (show u=Value.ref b from ry);let⟨z,hd,xs,rel,dd⟩:=nH I.aH e;refine call_meetsIn Ae dd.typeIs F1 (F2 _ _ _) (meetsH_dict_get_default (tupleKind (cN X.prog X.w)) a b hd r) ⟨vK hu,k,xs,qT I.aH eb,dd,h _ _ (I.tok _) ?_⟩;rw[l];exact(rel.val k).getD rd
end
section
variable {X:Cx}{o e f:Expr}{apos dF:Pos}{td ty tx:TE}
end
section
variable {X:Cx}{pins:Qxq}{σ:St}{H:Hp}{s:Shared}{a:Addr}{aj:List (Key×V)}{A:Around}{E:Qzx}
end
section
variable {X:Cx}{pins:Qxq}{σ:St}{H:Hp}{s:Shared}{a:Addr}{y:V}{u:Value}{A:Around}{E:Qzx}
end
end L2
namespace QO
open PySem PySem.W PySem.Calls PyProof.Rows
def TL{P:Params}{h:Heap}:∀(ns:Qxk) (vs:Qxz),WellAll P h vs (ns.map WData.int)→IntsAre vs ns:=by
 intro ns
 induction ns with
 |nil =>
  intro vs w;rw[F0]at w;cases w;exact .nil
 |cons n ns ih =>
  intro vs w;rw[dA]at w;cases w with
  |cons a b =>
   cases a;exact .cons _ _ (ih _ b)
def UZ{l:OpenLaw}{n:Nat}(hn:l.most=some n){P:Params}{h:Heap}{args:List WData}{vals:Qxz}
  (rM:l.row.toRowW.claim.pre args=true) (AH:WellAll P h vals args) :
  ∃a vs ns,vals=[Value.ref a]∧args=[WData.list (ns.map WData.int)]∧h.get? a=some { cls:=.type "list",data:=.seq vs.toArray }∧IntsAre vs ns∧ns.length≤n:=by
 let hsh:WShape.hasAll [] args [.list .int]=true:=(pre_splitW rM).1;let hc:l.pre.holds [] { args:=args }=true:=(pre_splitW rM).2;let⟨d,r,rfl,h1,h2⟩:=hasAllW_cons hsh;obtain rfl:=hasAllW_nil h2;let⟨xs,rfl,h3⟩:=hasW_list h1;let⟨ns,rfl⟩:=items_int h3;let hlen:ns.length≤n:=by
  unfold OpenLaw.pre at hc;let h4:(WTm.not (.lt (.lit (.int (n:Int))) (.len (.arg 0)))).holds [] { args:=[.list (ns.map .int)] }=true:=by
   let h4:=(holds_andW hc).1;rw[hn]at h4;exact h4
  let h5:=condW_of h4 (w_not (w_lt w_lit (w_len_list (w_arg rfl))));rw[eU]at h5;refine Nat.le_of_not_lt λq=>?_;let q':(n:Int)<((ns.length:Nat):Int):=by omega
  first
   | (rw[dP q']at h5;exact absurd h5 (by decide))
   | (simp at h5;omega)
 cases AH with
 |cons w1 w2 =>
  cases w2;cases w1 with
  |list ho ER=>exact⟨_,_,ns,rfl,rfl,ho,TL ns _ ER,hlen⟩
def U0(l:OpenLaw)(args:List WData):l.row.toRowW.claim.post args (.bool true) args=true :=
 postW_of (r:=l.row.toRowW) (X:=(true==true))
  (show WShape.has [] (.bool true) .bool=true by first|rfl|decide|simp[WShape.has,WShape.arms,WShape.armsAll])
  (show(WTm.eq .res (.lit (.bool true))).value [] { args:=args,res:=some (.bool true),after:=args }=some (.bool (true==true))from w_eq_bool (w_res rfl) w_lit) rfl
def Ub{l:OpenLaw}{n:Nat}{q:Program}{loose:Qjz}{XP:(Str→Option Value)→Heap→Prop}{YP:World→Heap→Prop}{d:DefRec}
  (hn:l.most=some n) (wd:d.params.defaults=[])
  (call:∀(w:World) (s₀ s₁:Shared) (mg mb:Str→Option Value) (fa:Addr) (o:Obj) (pm cd doc:Value) (a:Addr) (vs:Qxz) (ns:Qxk),
   Ground q loose [] XP w s₀ mg mb s₁.heap→YP w s₁.heap →
   s₁.heap.get? fa=some o→o.data=.func (docDef d.name d.params d.body d.scope pm cd doc)→s₁.heap.CodeRec cd d.name→mg d.name=some (.ref fa) →
   s₁.heap.get? a=some { cls:=.type "list",data:=.seq vs.toArray }→IntsAre vs ns→ns.length≤n→s₁.gens=#[] →
   codeAny (model l.prog w) callerA (.call (.ref fa) ⟨[.ref a],[]⟩) (λr s'=>r=.ok (.ret (.bool true))∧OldK s₁.heap s'.heap∧s'.os=s₁.os∧AllBare s'.gens) s₁) :
  WalkO q loose XP YP l.row.toRowW d [] (λf vs=>PySem.call f vs):=by
 intro w s₀ s₁ mg mb G Y fa o pm cd doc dV kV ho hd iZ hD Gq hg args vals as rM hlay hrd AH hlo;obtain rfl:dV=.none:=Dflts.none hD wd;obtain rfl:kV=.none:=Dflts.noKw hD;let⟨a,vs,ns,rfl,rfl,EV,hints,hlen⟩:=UZ hn rM AH;refine enter_call (codeAny_mono (call w s₀ s₁ mg mb fa o pm cd doc a vs ns G Y ho (fd_plain hd) iZ Gq EV hints hlen hg) λr s' hq=>?_);let⟨rfl,h2,h3,h4⟩:=hq;exact⟨.inl ⟨.bool true,.bool true,[],rfl,λ_=>rfl,.bool true,U0 l _,λ_=>⟨List.Pairwise.nil,λ_ hm=>(nomatch hm)⟩⟩,h2,h3,h4⟩
section
variable {prog:Program}{w:World}{A:Around}{E:Qzx}{s:Shared}{K:Frag}
end
end QO
namespace L2
open PySem PySem.Spec PyProof.Rows
theorem uh:∀{vs:Qxz}{ns:Qxk},IntsAre vs ns→Vals (ns.map V.int) vs
 |_,_,.nil=>.nil
 |_,_,.cons n t h=>.cons ⟨t,rfl⟩ (uh h)
def Only(H:Hp):Prop:=∀b,H b=none∨∃o xs,H b=some (.aZ o (.lst xs))
def VJ{P:Program}{w:World}{K:Qzk}{mg mb:Str→Option Value}{CX:ky}{k:Nat}{fa a:Addr}{fd:FuncData}{x:Str}{sp:Sp}{s₁:Shared}{vs:Qxz}{ns:Qxk}
  (KX:K.In s₁.heap) (sQ:s₁.heap.Ns mainGlobals mg) (hb:s₁.heap.Ns builtinsNs mb) (m6:∀x:Str,x ≠ "__name__" → mb x=bootBuiltins x) (adF:s₁.heap.NoLimit) (hg:s₁.gens=#[])
  (ha:s₁.heap.get? a=some { cls:=.type "list",data:=.seq vs.toArray }) (hi:IntsAre vs ns) (hl:ns.length≤sizeLine) (hr:fh k callerA)
  (F:∀base:Heap,K.In base→base.Ns mainGlobals mg→mK P w K mg base CX k fa fd [x] sp) (abU:∀(s:Shared) (u:Value),BindsTo s fd ⟨[u],[]⟩ [(x,u)])
  (lM:∀H:Hp,Only H→b0 K H a (ns.map V.int)→sp [.ref a] H (λv _=>v=.bl true) λ_ _ _=>False)
  (Gu:∀H e s',CX [] H s₁ (λ_ _ _=>False) e s'→False) :
  codeAny (model P w) callerA (.call (.ref fa) ⟨[.ref a],[]⟩) (λr s'=>r=.ok (.ret (.bool true))∧OldK s₁.heap s'.heap∧s'.os=s₁.os∧AllBare s'.gens) s₁:=by
 let rv:=uh hi;let adG:=hi.length;let core:∀H:Hp,Only H→b0 K H a (ns.map V.int)→cX P w H s₁.heap→(∀b,H b≠none→b=a)→(H a≠none→K.lookup a=none) →
   codeAny (model P w) callerA (.call (.ref fa) ⟨[.ref a],[]⟩) (λr s'=>r=.ok (.ret (.bool true))∧OldK s₁.heap s'.heap∧s'.os=s₁.os∧AllBare s'.gens) s₁:=by
  intro H hO hS aH hA hK;let Lb:∀{b:Addr}{o:Obj},s₁.heap.get? b=some o→H b=none→(mH s₁.heap H).get? b=some o:=λe n=>Vu e n;let v8:∀{b:Addr}{o:Obj}{es:Array DictEntry}{ep:Nat},s₁.heap.get? b=some o→o.data=.dict es ep→H b=none:=λ{b o es ep} e d=>by
   cases q:H b with
   |none=>rfl
   |some u =>
    let e':b=a:=hA b (by rw[q];simp);subst e';rw[ha]at e;cases e;let d':Data.seq vs.toArray _=Data.dict es ep:=d;cases d'
  let AI:∀{b:Addr}{m:Str→Option Value},s₁.heap.Ns b m→(mH s₁.heap H).Ns b m:=λ{b m} ⟨o,es,ep,e,d,r⟩=>⟨o,es,ep,Lb e (v8 e d),d,r⟩;let QP:K.In (mH s₁.heap H):=λb o e=>Lb (KX b o e) (by
   cases q:H b with
   |none=>rfl
   |some u =>
    let e':b=a:=hA b (by rw[q];simp);subst e';rw[hK (by rw[q];simp)]at e;cases e)
  let hM:Mod K mg (mH s₁.heap H):=⟨QP,AI sQ,⟨mb,AI hb,m6⟩,let ⟨mc,h1,h2⟩:=adF;⟨mc,AI h1,h2⟩⟩;let e0:zD P w K mg (mH s₁.heap H) callerA [] s₁ H:=⟨rfl,hM,λb o e=>WZ e,oa (UK _ _),trivial,λb hb=>absurd (show b∈([]:List Addr)from hb) (by simp),aH,.of_eq hg⟩;refine codeAny_mono ((F _ QP (AI sQ)).run callerA [] s₁ H ⟨[.ref a],[]⟩ [.ref a] [.ref a] _ _ hr e0 (abU s₁ (.ref a)) (.cons rfl .nil) (lM H hO hS)) λr s' h=>?_;cases r with
  |error e=>exact(Gu H e s' h).elim
  |ok fl =>
   cases fl with
   |next=>exact False.elim h
   |brk=>exact False.elim h
   |cont=>exact False.elim h
   |ret u =>
    let⟨v,H',os,bare,un,adH,r',q⟩:=h;let q':v=.bl true:=q;subst q';obtain rfl:u=Value.bool true:=r';refine⟨rfl,OldK.of_keep λb o e=>?_,os,bare⟩;cases q:H b with
    |none=>exact un.keep b o e q (by intro z;exact absurd (show b∈([]:List Addr)from z) (by simp)) (by simp)
    |some u =>
     rcases hO b with z|⟨ob,xs,z⟩
     ·rw[q]at z;cases z
     ·let z2:=un.jW b ob _ z;let⟨e1,_⟩:=aH b _ z;let⟨e2,_⟩:=adH b _ z2;rw[e]at e1;cases e1;exact e2
 cases hk:K.lookup a with
 |some o =>
  let e:=KX a o hk;rw[ha]at e;cases e;refine core (λ_=>none) (λ_=>.inl rfl) (.inr ⟨_,vs.toArray,_,hk,rfl,rfl,rfl,by rw[gE,adG];exact hl,by simpa using rv⟩) (λb u z=>by let z':(none:Option HO)=some u:=z;cases z') (λb z=>absurd rfl z) λz=>absurd rfl z
 |none =>
  refine core (λb=>if b=a then some (.aZ { cls:=.type "list",data:=.seq vs.toArray } (.lst (ns.map V.int)))else none) (λb=>?_) (.inl (.inr ⟨{ cls:=.type "list",data:=.seq vs.toArray },if_pos rfl⟩)) (λb u z=>?_) (λb z=>?_) λ_=>hk
  ·by_cases hb:b=a
   ·exact .inr ⟨_,_,if_pos hb⟩
   ·exact .inl (if_neg hb)
  ·by_cases hb:b=a
   ·let z':=(if_pos hb).symm.trans z;cases z';subst hb;exact⟨ha,by rw[eU];exact hl,vs,_,rv,ha⟩
   ·let z':=(if_neg hb).symm.trans z;cases z'
  ·by_cases hb:b=a
   ·exact hb
   ·exact absurd (if_neg hb) z
def Xn{l:PySem.W.OpenLaw}{n k:Nat}{q:Program}{loose:Qjz}{XP:(Str→Option Value)→Heap→Prop}{YP:World→Heap→Prop}{d:DefRec}{K:Params→Qzk}{CX:World→ky}{sp:World→Sp}{x:Str}
  (hn:l.most=some n) (Gw:n≤sizeLine) (wd:d.params.defaults=[]) (hr:fh k callerA)
  (hY:∀(w:World) (h:Heap),YP w h→(K w.params).In h)
  (F:∀(w:World) (mg:Str→Option Value) (fa:Addr) (h:Heap),(K w.params).In h→h.Ns mainGlobals mg→mg d.name=some (.ref fa) →
   ∃fd:FuncData,(∀(s:Shared) (u:Value),BindsTo s fd ⟨[u],[]⟩ [(x,u)]) ∧
    ∀base:Heap,(K w.params).In base→base.Ns mainGlobals mg→mK l.prog w (K w.params) mg base (CX w) k fa fd [x] (sp w))
  (lM:∀(w:World) (H:Hp) (a:Addr) (ns:Qxk),ns.length≤n→Only H→b0 (K w.params) H a (ns.map V.int)→sp w [.ref a] H (λv _=>v=.bl true) λ_ _ _=>False)
  (Gu:∀(w:World) (H:Hp) (s:Shared) (e:Value) (s':Shared),CX w [] H s (λ_ _ _=>False) e s'→False) :
  PySem.W.WalkO q loose XP YP l.row.toRowW d [] (λf vs=>PySem.call f vs):=by
 refine QO.Ub hn wd λw s₀ s₁ mg mb fa o pm cd doc a vs ns G Y ho hd iZ Gq EV hints hlen hg=>?_;let KX:=hY w _ Y;let⟨fd,hb,hF⟩:=F w mg fa _ KX G.T.g Gq;exact VJ KX G.T.g G.T.b G.T.builtins G.T.nolimit hg EV hints (dM hlen Gw) hr hF hb (λH hO hS=>lM w H a ns hlen hO hS) λH e s'=>Gu w H s₁ e s'
abbrev gu(s:Stmt):Arguments:=match s with
 |.FunctionDef _ a _ _ _ _ _ _ _ _=>a
 |_=>{ posonlyargs:=[],args:=[],vararg:=none,kwonlyargs:=[],kw_defaults:=[],kwarg:=none,defaults:=[] }
abbrev fC(s:Stmt):List Stmt:=match s with
 |.FunctionDef _ _ b _ _ _ _ _ _ _=>b
 |_=>[]
abbrev cy(s:Stmt):Scope:=match s with
 |.FunctionDef _ _ _ _ _ _ sc _ _ _=>sc
 |_=>{ kind:=.function,names:=[],isGenerator:=false,isCoroutine:=false }
noncomputable abbrev m7:ky:=λ_ _ _ _ _ _=>False
noncomputable abbrev E0:XK:=λ_ _ _=>False
def Ef{X:Cx}:Passes m7 X E0:=λ_ _ _ _ _ _ _ h=>h.elim
structure sR (K:Qzk)(x qual:Str)(st:Stmt)(f:Addr)(fd:FuncData):Prop where
 ex:∃(oc:Value) (od:Qxx) (kV doc pm:Value) (an:Qxx) (bX ct:Value) (kz:Array (Option Value)),
  fd=PySem.W.fnOf x qual (gu st) (fC st) (cy st) .none kV doc pm an bX ct∧K.lookup f=some ⟨oc,od,.func fd,kz⟩∧PySem.W.codeIn K bX qual=true
 kp:PySem.W.keepIn K (.ref f)=true
section
variable {P:Program}{w:World}{K:Qzk}{mg:Str→Option Value}{base:Heap}
def sR.ok{x qual:Str}{st:Stmt}{f:Addr}{fd:FuncData}{N ps:Qjz}{k:Nat}{sp:Sp}(F:sR K x qual st f fd)(S:uD N ps (cy st))(len:∀vs H Q E,sp vs H Q E→vs.length=ps.length)
  (u6:∀(bX:Value) (A:Around) (outer:List Env) (s:Shared) (H:Hp) (vs:List V) (Q:VK) (E:XK),fh k (A.deeper (envOfC qual (cy st) s.heap.objs.size f bX))→sp vs H Q E →
   ∃t,hU (nS m7 P w K mg base N qual (cy st) f bX A outer s H E).qg (fC st) t∧t { nx:=λ_ H'=>Q .non H',rt:=Q } (start N vs) H):mK P w K mg base m7 (k+1) f fd ps sp:=by
 let⟨oc,od,kV,doc,pm,an,bX,ct,kz,rfl,lk,iZ⟩:=F.ex;refine Ob lk iZ S len λA outer s H vs Q E hr lM=>?_;let⟨t,h,q⟩:=u6 bX A outer s H vs Q E hr lM;exact⟨t,h.qg,q⟩
def sR.binds{x qual:Str}{st:Stmt}{f:Addr}{fd:FuncData}{ps:Qjz}(F:sR K x qual st f fd)
  (h:∀(kV doc pm:Value) (an:Qxx) (bX ct:Value) (us:Qxz),us.length=ps.length→bindArgs (PySem.W.fnOf x qual (gu st) (fC st) (cy st) .none kV doc pm an bX ct) ⟨us,[]⟩=pure (ps.zip us)):Binds K fd ps []:=by
 let⟨oc,od,kV,doc,pm,an,bX,ct,kz,rfl,lk,iZ⟩:=F.ex;exact .all (h kV doc pm an bX ct)
def MK{x qual:Str}{st:Stmt}{f:Addr}{oc:Value}{od an:Qxx}{kz:Array (Option Value)}{kV doc pm bX ct:Value}(l:K.lookup f=some ⟨oc,od,.func (PySem.W.fnOf x qual (gu st) (fC st) (cy st) .none kV doc pm an bX ct),kz⟩)
 (c:PySem.W.codeIn K bX qual=true) (k:PySem.W.keepIn K (.ref f)=true):sR K x qual st f (PySem.W.fnOf x qual (gu st) (fC st) (cy st) .none kV doc pm an bX ct):=⟨⟨oc,od,kV,doc,pm,an,bX,ct,kz,rfl,l,c⟩,k⟩
end
def lq{A:Around}{k:Nat}(hr:fh k A):A.units+1<cLine:=eD (Nat.add_le_add_left (by decide:1≤64) _) hr.units
section
variable {X:Cx}
end
def adI{A B:Prop}(h:A):if true=true then A else B:=by
 rw[if_pos rfl];exact h
def aG(H H':Hp):Prop:=∀b o,H b=some o→H' b=some o
def aG.refl(H:Hp):aG H H:=λ_ _ h=>h
def aG.trans{H H1 H2:Hp}(a:aG H H1)(b:aG H1 H2):aG H H2:=λc o h=>b c o (a c o h)
def aG.free{H H':Hp}(e:aG H H'){l:Addr}(h:H' l=Option.none):H l=Option.none:=by
 cases q:H l with
 |none=>rfl
 |some o =>
  rw[e l o q]at h;cases h
section
variable {κ:Type}[DecidableEq κ]
end
def T5{α β:Type}{l:List α}{f:α→β→Sem (ForInStep β)}(g:α→β→β):∀(c:β),(∀x∈l,∀c,f x c=pure (.yield (g x c)))→forIn l c f=pure (l.foldl (λc x=>g x c) c):=by
 induction l with
 |nil=>intro c _;rfl
 |cons x l ih =>
  intro c h;rw[List.forIn_cons,h x cg,pure_bind];exact ih (g x c) λy hy=>h y (c9 _ hy)
abbrev jm(env:Env)(x:Str×NameKind)(cs:List (Str×Addr)):List (Str×Addr):=if (x.2==NameKind.free)=true then (x.1,(env.cells.lookup x.1).getD 0)::cs else cs
def pG(sc:Scope)(env:Env):List (Str×Addr):=sc.names.foldl (λcs x=>jm env x cs) []
def Ii{sc:Scope}{env:Env}(h:∀x∈sc.names,x.2=.free→∃c,env.cells.lookup x.1=some c):closureFor sc env=pure (pG sc env):=by
 simp only[closureFor];rw[T5 (jm env) [] (λx hx c=>?_)]
 ·rfl
 ·let⟨n,kind⟩:=x;cases hk:kind==NameKind.free with
  |false=>simp[jm,hk]
  |true =>
   let⟨a,ha⟩:=h (n,kind) hx (by simpa using hk);let wg:env.cells.lookup n=some a:=ha;simp[jm,hk,cellOf,wg]
theorem ML(env:Env)(hh:∀(x:Str×NameKind),x.2=.free→True):∀(names:List (Str×NameKind)) (acc:List (Str×Addr)),(∀x∈names,x.2=.free→∃c,env.cells.lookup x.1=some c)→(∀x c,acc.lookup x=some c→env.cells.lookup x=some c) →
  ∀x c,(names.foldl (λcs x=>jm env x cs) acc).lookup x=some c→env.cells.lookup x=some c
 |[],acc,_,ha,x,c,h=>ha x c h
 |y::r,acc,hf,ha,x,c,h=>by
  refine ML env hh r (jm env y acc) (λz hz=>hf z (c9 _ hz)) (λz d hd=>?_) x c h;unfold jm at hd;split at hd
  ·rename_i hk;let⟨a,e⟩:=hf y cg (by simpa using hk);by_cases q:z=y.1
   ·subst q;simp[e]at hd;rw[e,hd]
   ·let q':(z==y.1)=false:=by simpa using q
    rw[mQ,q']at hd;exact ha z d hd
  ·exact ha z d hd
theorem MN(env:Env):∀(names:List (Str×NameKind)) (acc:List (Str×Addr)) (x:Str),((∃c,acc.lookup x=some c)∨(x,NameKind.free)∈names)→∃c,(names.foldl (λcs x=>jm env x cs) acc).lookup x=some c
  |[],acc,x,h=>by
    rcases h with h|h
    · exact h
    · exact nomatch h
  |y::r,acc,x,h=>by
    refine MN env r (jm env y acc) x ?_;by_cases hk:(y.2==NameKind.free)=true
    · by_cases q:x=y.1
      · refine .inl ⟨(env.cells.lookup y.1).getD 0,?_⟩
        unfold jm;rw[if_pos hk,q];simp
      · have q':(x==y.1)=false:=by simpa using q
        rcases h with⟨c,h⟩|h
        · refine .inl ⟨c,?_⟩
          unfold jm;rw[if_pos hk,mQ,q'];exact h
        · rcases dN.mp h with e|e
          · exact absurd (de (·.1) e) q
          · exact .inr e
    · rcases h with⟨c,h⟩|h
      · refine .inl ⟨c,?_⟩
        unfold jm;rw[if_neg hk];exact h
      · rcases dN.mp h with e|e
        · refine absurd ?_ hk
          rw[←e];rfl
        · exact .inr e
theorem xP{env:Env}{x:Str}{k:NameKind}:∀{names:List (Str×NameKind)},(names.map λ(n,k)=>if (k==NameKind.free&&env.scope.kind==.function&&env.kindOf n==some .cell)then (n,NameKind.cell)else (n,k)).lookup x=some k →
    names.lookup x=some k∨(k=.cell∧names.lookup x=some .free)
  |[],h=>by simp at h
  | (n,j)::r,h=>by
    let ih:=@xP env x k r;rw[dA]at h;cases hx:x==n with
    |true =>
      by_cases hc:(j==NameKind.free&&env.scope.kind==.function&&env.kindOf n==some .cell)=true
      · simp only[hc,if_true]at h
        rw[mQ,hx]at h;let e:NameKind.cell=k:=eC h;refine .inr ⟨e.symm,?_⟩;rw[mQ,hx];simp only[Bool.and_eq_true]at hc;let ej:j=.free:=by simpa using hc.1.1
        rw[ej]
      · simp only[hc,Bool.false_eq_true,if_false]at h
        rw[mQ,hx]at h;exact .inl (by rw[mQ,hx];exact h)
    |false =>
      let h':(r.map λ(n,k)=>if (k==NameKind.free&&env.scope.kind==.function&&env.kindOf n==some .cell)then (n,NameKind.cell)else (n,k)).lookup x=some k:=by
        by_cases hc:(j==NameKind.free&&env.scope.kind==.function&&env.kindOf n==some .cell)=true
        · simp only[hc,if_true]at h
          rw[mQ,hx]at h;exact h
        · simp only[hc,Bool.false_eq_true,if_false]at h
          rw[mQ,hx]at h;exact h
      rw[mQ,hx];exact ih h'
def Cx.cH(X:Cx)(N:Qjz)(sc:Scope)(C:Addr)(s₂:Shared)(H₂:Hp)(fp:List Addr)(pn:Qxq):Cx where
 prog:=X.prog
 w:=X.w
 K:=X.K
 mg:=X.mg
 base:=X.base
 A:=X.A
 N:=N
 s₀:=s₂
 H₀:=H₂
 env:=compEnvC sc (pG sc X.env) C X.env
 outer:=X.stack
 stack:=X.stack
 ex:=fp
 fn:=λ_=>false
 calm:=X.calm
 pn:=pn
 xe:=λ_ _=>False
def oA(X:Cx)(ifs:Qjq)(t:TT):Prop :=
 ∀(pins:Qxq) (s:Shared) (σ:St) (H:Hp) (Q:Bool→Hp→Prop),Inv X pins σ H s→t σ H Q →
  wpAny (model X.prog X.w) X.A (forIn ifs true λc r=>if r=true then do let ok ←isTrue c X.env (eval c X.env);pure (ForInStep.yield ok)else pure (ForInStep.yield r)) (TP X pins σ Q) X.xe s
abbrev zF:TT:=λ_ H Q=>Q true H
def yq{X:Cx}:oA X [] zF:=λ_ _ _ H _ I h=>wpAny_tests_nil ⟨H,I,h⟩
def Lc{X:Cx}{c:Expr}{t:TT}(h:PT X c t):oA X [c] t:=λpins s σ H Q I hq=>wpAny_tests_one (h pins s σ H Q I hq)
abbrev gA(σ:St)(ix:Qxj):St:=ix.map λi=>(σ[i]?).getD none
def vb(J:It)(D:Addr)(H1:Hp)(fr:St)(tc:TT)(te:TE)(Q:Addr→Hp→Prop):Prop :=
 ∃W:Nat→Nat→Hp→Prop,(∃m,W 0 m (upd H1 D (.lst [])))∧∀i m H,W i m H→(J.stop i H∧Q D H) ∨
  (J.go i H∧∀x H',J.ku i H x H'→tc (some x::fr) H' λb H3=>if b=true then te (some x::fr) H3 λy H4=>∃ys,H4 D=some (.lst ys)∧ys.length<sizeLine∧∃m',m'<m∧W (i+1) m' (upd H4 D (.lst (ys++[y])))
   else ∃m',m'<m∧W (i+1) m' H3)
def MP(gg:TG)(n:Nat)(J:It)(D:Addr)(H1:Hp)(fr:St)(tc:TT)(te:TE)(Q:Addr→Hp→Prop):Prop :=
 ∃W:Nat→Nat→Hp→Prop,(∃m,W 0 m (upd H1 D (.lst [])))∧∀i m H,W i m H→(J.stop i H∧Q D H) ∨
  (J.go i H∧∀x H',J.ku i H x H'→gg x (List.replicate n none++fr) H' λσ' H2=>H2=H'∧(∃ow:St,ow.length=n∧σ'=ow++fr)∧tc σ' H' λb H3=>if b=true then te σ' H3 λy H4=>∃ys,H4 D=some (.lst ys)∧ys.length<sizeLine∧∃m',m'<m∧W (i+1) m' (upd H4 D (.lst (ys++[y])))
   else ∃m',m'<m∧W (i+1) m' H3)
theorem vb.g{J:It}{D:Addr}{H1:Hp}{fr:St}{tc:TT}{te:TE}{Q:Addr→Hp→Prop}(h:vb J D H1 fr tc te Q):MP (gW 0) 1 J D H1 fr tc te Q:=by
 let⟨W,h0,h⟩:=h;refine⟨W,h0,λi m H w=>?_⟩;rcases h i m H w with z|⟨g,z⟩
 ·exact .inl z
 ·exact .inr ⟨g,λx H' y=>⟨rfl,⟨[some x],rfl,rfl⟩,z x H' y⟩⟩
def rA(wi:TI)(ix:Qxj)(tc:TT)(te:TE):TE:=λσ H Q=>wi σ H λJ H1=>∀D,H1 D=none→vb J D H1 (gA σ ix) tc te λD H=>Q (.ref D) H
def Uc{prog:Program}{w:World}{A:Around}{s:Shared}{R:Result→Shared→Prop}{elt target iter:Expr}{ifs:Qjq}{scope:Scope}{pos:Pos}{it acc:Value}{env:Env}(I:Nat→Shared→Prop)
  (turn:∀n s,I n s→wpAny (model prog w) A (pyNext it) (λr s₁=>match r with
   |none=>R (.ok .next) s₁
   |some v=>wpAny (model prog w) A (letOwnedTupleGo target it v) (λ_ s₂=>wpAny (model prog w) A (assign target env v) (λ_ s₃ =>
    wpAny (model prog w) A (forIn ifs true λc r=>if r=true then do let ok ←isTrue c env (eval c env);pure (ForInStep.yield ok)else pure (ForInStep.yield r)) (λok s₄ =>
     if ok=true then wpAny (model prog w) A (eval elt env) (λx s₅ =>
      wpAny (model prog w) A (call (.builtin "list.append") [acc,x]) (λ_ s₆=>∃m,m<n∧I m s₆) (notedBy (model prog w) A env λe s'=>R (.error e) s') s₅) (notedBy (model prog w) A env λe s'=>R (.error e) s') s₄
     else ∃m,m<n∧I m s₄) (notedBy (model prog w) A env λe s'=>R (.error e) s') s₃) (notedBy (model prog w) A env λe s'=>R (.error e) s') s₂) (notedBy (model prog w) A env λe s'=>R (.error e) s') s₁) (notedBy (model prog w) A env λe s'=>R (.error e) s') s)
  (n:Nat) (h:I n s) :
  codeAny (model prog w) A (.compLoop (.ListComp elt [⟨target,iter,ifs,0⟩] scope pos) 0 it acc env) R s:=by
 refine codeAny_loop rfl I (λn s hI=>?_) n h;show wpAny _ A ((compTurn (.ListComp elt [⟨target,iter,ifs,0⟩] scope pos) 0 it acc env).onRaise (λx=>do noteFrame x env;theTreesLotGoes x)) _ _ s;refine wpAny_noted ?_;rw[compTurn_list];refine aA (z6 (aA (gb (turn n s hI) (λr s₁ h₁=>?_) λ_ _ h'=>h')));cases r with
 |none=>exact aO h₁
 |some v =>
  refine aA (gb h₁ (λ_ s₂ h₂=>?_) λ_ _ h'=>h');refine aA (gb h₂ (λ_ s₃ h₃=>aA (gb h₃ (λok s₄ h₄=>?_) λ_ _ h'=>h')) λ_ _ h'=>h');cases ok with
  |false=>exact aO ⟨rfl,h₄⟩
  |true =>
   exact aA (aA (gb h₄ (λx s₅ h₅=>aA (gb h₅ (λ_ s₆ h₆=>aO (aO ⟨rfl,h₆⟩)) λ_ _ h'=>h')) λ_ _ h'=>h'))
structure mz (N N':Qjz)(sc aD:Scope)(x:Str)(ix:Qxj):Prop where
 kind:aD.kind=.function
 yH:∀y∈aD.names,y.2≠.cell
 names:∀y∈aD.names,y.2=.local→aD.names.lookup y.1=some .local
 loc:aD.names.lookup x=some .local
 free:∀y∈aD.names,y.2=.free→sc.names.lookup y.1=some .cell
 nd:N'.Nodup
 hd:N'[0]?=some x
 len:N'.length=ix.length+1
 fr:∀p∈ix.zip N'.tail,N[p.1]?=some p.2∧sc.names.lookup p.2=some .cell∧aD.names.lookup p.2=some .free
structure Ld (n:Nat)(N N':Qjz)(sc aD:Scope)(ix:Qxj):Prop where
 kind:aD.kind=.function
 yH:∀y∈aD.names,y.2≠.cell
 names:∀y∈aD.names,y.2=.local→aD.names.lookup y.1=some .local
 free:∀y∈aD.names,y.2=.free→sc.names.lookup y.1=some .cell
 len:N'.length=ix.length+n
 fr:∀p∈ix.zip (N'.drop n),N[p.1]?=some p.2∧sc.names.lookup p.2=some .cell∧aD.names.lookup p.2=some .free
def mz.g{N N':Qjz}{sc aD:Scope}{x:Str}{ix:Qxj}(h:mz N N' sc aD x ix):Ld 1 N N' sc aD ix :=
 ⟨h.kind,h.yH,h.names,h.free,h.len,by rw[List.drop_one];exact h.fr⟩
section
variable {X:Cx}{N':Qjz}{aD:Scope}{x:Str}{ix:Qxj}{px pos:Pos}{elt iter:Expr}{ifs:Qjq}{wi:TI}{tc:TT}{te:TE}
def Ud{n:Nat}{tg:Expr}{gg:TG}{pins:Qxq}{σ:St}{H2:Hp}{s2:Shared}{it:Addr}{fp:List Addr}{tn:Nat→Heap→Prop}{J:It}{RR:Value→Addr→Result→Shared→Prop}{E:Qzx}{Qd:Addr→Hp→Prop}
  (ok:Ld n X.N N' X.env.scope aD ix) (hg:∀C s₂ H₂ fp pn,PG (X.cH N' aD C s₂ H₂ fp pn) tg gg) (hc:X.calm=true) (I2:Inv X pins σ H2 s2) (T:Turn X.prog X.w X.K tg J fp it tn) (bD:tn 0 s2.heap) (f2:∀b∈fp,jY X pins H2 b)
  (gP:∀C s₂ H₂ fp pn,oA (X.cH N' aD C s₂ H₂ fp pn) ifs tc) (hX:∀C s₂ H₂ fp pn,PE (X.cH N' aD C s₂ H₂ fp pn) elt te)
  (hW:∀D,H2 D=none→MP gg n J D H2 (gA σ ix) tc te Qd)
  (Gx:∀D C s4 H4 m,Inv X pins σ H4 s4→s4.heap.Ns C m→(∀(h':Heap) (t':Nat) (σ':St) (s5:Shared),Inv X pins σ' H4 s5→Heap.SameBut C s5.heap h'→Inv X pins σ' H4 { s5 with heap:=h',toks:=t' })→C≠X.env.locals→(∀y c,X.env.cells.lookup y=some c→c≠C)→Qd D H4→RR (.ref D) C (.ok .next) s4) :
  wpAny (model X.prog X.w) X.A (newList []) (λacc s₃=>wpAny (model X.prog X.w) X.A (newFunctionEnv aD X.env.globals (pG aD X.env) [] X.env.qual none .none (some X.env)) (λvp s₄ =>
   codeAny (model X.prog X.w) X.A (.compStart (.ListComp elt [⟨tg,iter,ifs,0⟩] aD pos) 0 (.ref it) acc { vp with scope:=relabel aD X.env }) (RR acc vp.locals) s₄) E s₃) E s2:=by
 refine n8 (wpAny_newFunctionEnv ok.yH (by intro y hy;simp at hy) (λh₁ hns₁ hsb₁=>?_) ok.kind);dsimp only at hns₁ hsb₁ ⊢;generalize Gy:s2.heap.push { cls:=.type "list",dict:=none,data:=.seq ([]:Qxz).toArray }=HP at hns₁ hsb₁ ⊢;let hC:HP.objs.size=s2.heap.objs.size+1:=by rw[←Gy,Heap.size_push]
 let AJ:s2.heap.objs.size≠HP.objs.size:=by rw[hC];exact fH (Nat.lt_succ_self _)
 let vq:s2.heap.objs.size≤HP.objs.size:=by rw[hC];exact Nat.le_succ _
 let below:∀b,b<s2.heap.objs.size→b≠HP.objs.size∧b≠s2.heap.objs.size:=λb hb=>⟨by rw[hC];exact fH (Nat.lt_succ_of_lt hb),fH hb⟩;let old:∀b o,s2.heap.get? b=some o→h₁.get? b=some o:=λb o e=>hsb₁.extBut b o (below b (bZ e)).1 (cG _ (Gy▸cG _ e));let iX:h₁.get? s2.heap.objs.size=some { cls:=.type "list",dict:=none,data:=.seq ([]:Qxz).toArray }:=hsb₁.extBut _ _ AJ (cG _ (Gy▸gD _ rfl));let Gz:H2 s2.heap.objs.size=none:=I2.aH.fresh (aW _);let QQ:H2 HP.objs.size=none:=I2.aH.fresh vq;generalize hD:s2.heap.objs.size=D at AJ iX Gz ⊢;generalize hCC:HP.objs.size=C at hns₁ hsb₁ AJ QQ vq below ⊢;let y0:∀y∈aD.names,y.2=.free→∃c,X.env.cells.lookup y.1=some c:=λy hy e=>I2.ok.has y.1 (.inl (ok.free y hy e));let oB:∀y c,(pG aD X.env).lookup y=some c→X.env.cells.lookup y=some c:=ML X.env (λ_ _=>trivial) aD.names [] y0 (λ_ _ z=>by simp at z);let QR:∀y,(y,NameKind.free)∈aD.names→∃c,(pG aD X.env).lookup y=some c:=λy hy=>MN X.env aD.names [] y (.inr hy);let MQ:∀y c,X.env.cells.lookup y=some c→c<s2.heap.objs.size:=λy c e=>by
  let⟨v,o,ho,_⟩:=I2.cell y c e;exact bZ ho
 let EW:∀b∈fp,b<s2.heap.objs.size:=λb hb=>by
  let⟨o,e,_⟩:=T.obj 0 _ bD b hb;exact bZ e
 let EX:∀b,b≠X.env.locals→b∉X.fs→b∉jG X.stack:=λb h1 h2 z=>(dN.mp (I2.DS b z)).elim h1 h2;let okB:(X.cH N' aD C s2 H2 fp (X.pn++pins)).Ok:=by
  refine⟨I2.ok.mod,ok.kind,I2.ok.glob,I2.ok.blt,vq,λy z c h1 h2=>?_,λy hy=>?_,λy c z=>?_,I2.ok.hd,I2.ok.frames,.inl rfl,λb hb=>?_,I2.bs,dM I2.ok.mU I2.sz,λb o e hb=>?_,λb hb=>?_,I2.stack,I2.KZ⟩
  ·exact I2.ok.inj y z c (oB y c h1) (oB z c h2)
  ·let Gp:(relabel aD X.env).names.lookup y=some .cell∨(relabel aD X.env).names.lookup y=some .free:=hy;let hf:aD.names.lookup y=some .free:=by
    rcases Gp with z|z
    ·rcases xP z with q|q
     ·exact absurd rfl (ok.yH _ (n5 q))
     ·exact q.2
    ·rcases xP z with q|q
     ·exact q
     ·exact absurd q.1 (by decide)
   exact QR y (n5 hf)
  ·exact nomatch z
  ·exact⟨(below b (EW b hb)).1,λy c e=>(f2 b hb).2.2.2.2.1 y c (oB y c e)⟩
  ·rcases (f2 b hb).2.2.2.1 with z|z
   ·exact I2.ok.vm b o e z
   ·exact absurd (fM (bZ e) (dM I2.ok.mU z)) (kf _)
  ·exact EX b (f2 b hb).2.1 (f2 b hb).2.2.1
 let GA:∀{H':Hp},(∀b∈fp,H' b=none)→∀b∈fp,jY (X.cH N' aD C s2 H2 fp (X.pn++pins)) [] H' b:=λhn b hb =>
  ⟨hn b hb,(below b (EW b hb)).1,EX b (f2 b hb).2.1 (f2 b hb).2.2.1,.inl hb,λy c e=>(f2 b hb).2.2.2.2.1 y c (oB y c e),λp hp=>(f2 b hb).2.2.2.2.2 p (by simpa using (show p∈(X.pn++pins)++[] from hp))⟩
 let⟨mL,hmL,abV⟩:=id I2.loc;let IB:Inv (X.cH N' aD C s2 H2 fp (X.pn++pins)) [] (List.replicate n none++gA σ ix) (upd H2 D (.lst [])) { s2 with heap:=h₁,toks:=s2.toks+([]:List (Str×Value)).length }:=by
  refine⟨okB,rfl,I2.bare,Un.laid old (oa hD) Gz,⟨_,hns₁,λi y v h1 h2 h3=>?_⟩,λy c e=>?_,?_,λy c e=>?_,λp hp=>?_,I2.aH.laid old (oa hD) ⟨jE _,[],_,.nil,iX⟩,?_⟩
  ·by_cases QS:i<n
   ·rw[p8 (by simpa using QS),vI,if_pos QS]at h2;cases h2
   ·obtain⟨j,rfl⟩:∃j,i=n+j:=⟨i-n,by omega⟩;let oC:(gA σ ix)[j]?=some (some v):=by
     rw[List.getElem?_append_right (by simp)]at h2;simpa using h2
    unfold gA at oC;rw[cA]at oC;cases ei:ix[j]? with
    |none=>rw[ei]at oC;cases oC
    |some i =>
     rw[ei]at oC;let zG:(σ[i]?).getD none=some v:=eC oC;let hσ:σ[i]?=some (some v):=by
      cases es:σ[i]? with
      |none=>rw[es]at zG;cases zG
      |some q=>rw[es]at zG;exact de some zG
     let adJ:(N'.drop n)[j]?=some y:=by rw[List.getElem?_drop];exact h1
     let⟨n1,n2,n3⟩:=ok.fr (i,y) (dO (i:=j) (by rw[List.getElem?_zip_eq_some];exact⟨ei,adJ⟩));let⟨u,ru,lk⟩:=abV i y v n1 hσ (.inr (.inl n2));refine⟨u,ru,?_⟩;rcases lk with⟨k,_⟩|⟨_,c,ec,z⟩
     ·let k':X.env.scope.names.lookup y=some .local:=k;rw[n2]at k';cases k'
     ·let⟨c',QT⟩:=QR y (n5 n3);let e3:=oB y c' QT;rw[ec]at e3;cases e3;let kk:(relabel aD X.env).names.lookup y=some .cell∨(relabel aD X.env).names.lookup y=some .free:=by
       rcases h3 with q|q|q
       ·let q':(relabel aD X.env).names.lookup y=some .local:=q;rcases xP q' with r|r
        ·rw[n3]at r;cases r
        ·exact absurd r.1 (by decide)
       ·exact .inl q
       ·exact .inr q
      exact .inr ⟨kk,c,QT,z.keeps old⟩
  ·let⟨v,z⟩:=I2.cell y c (oB y c e);exact⟨v,z.keeps old⟩
  ·show upd H2 D (.lst []) C=none;rw[aI (lG AJ)];exact QQ
  ·show upd H2 D (.lst []) c=none;let l:=MQ y c (oB y c e);rw[aI (λq=>by rw[q,←hD]at l;exact kf _ l)];exact I2.iO y c (oB y c e)
  ·let AK:p∈X.pn++pins:=by simpa using (show p∈(X.pn++pins)++[] from hp)
   let⟨e,n,ne,nf,d⟩:=I2.pin p AK;let l:=bZ e;refine⟨old _ _ e,?_,(below p.1 l).1,EX p.1 ne nf,d⟩;rw[aI (λq=>by rw[q,←hD]at l;exact kf _ l)];exact n
  ·show(List.replicate n none++gA σ ix:St).length=N'.length;rw[ok.len];simp[gA,Nat.add_comm]
 let back:∀{H4:Hp}{s4:Shared}{σ4:St}{ps:Qxq},Inv (X.cH N' aD C s2 H2 fp (X.pn++pins)) ps σ4 H4 s4→Inv X pins σ H4 s4:=λI4 =>
  I2.abD I4.os I4.base I4.aH I4.bare λb hb=>⟨(f2 b hb).2.2.2.1,(f2 b hb).2.1,(f2 b hb).2.2.2.2.1,(f2 b hb).2.2.2.2.2⟩
 let qf:C≠X.env.locals:=λz=>by
  let l:=I2.lt;rw[←z]at l;exact absurd (fM l vq) (kf _)
 let mV:∀y c,X.env.cells.lookup y=some c→c≠C:=λy c e=>(below c (MQ y c e)).1;let neP:∀p∈X.pn++pins,p.1≠C:=λp hp=>(below p.1 (bZ (I2.pin p hp).1)).1;let loop:∀s₃:Shared,s₃={ s2 with heap:=h₁,toks:=s2.toks+([]:List (Str×Value)).length } →
   codeAny (model X.prog X.w) X.A (.compLoop (.ListComp elt [⟨tg,iter,ifs,0⟩] aD pos) 0 (.ref it) (.ref D) (compEnvC aD (pG aD X.env) C X.env)) (RR (.ref D) C) s₃:=by
  rintro s₃ rfl;let⟨W,⟨m0,AO⟩,turn⟩:=hW D Gz;refine Uc (λk s'=>∃i H',Inv (X.cH N' aD C s2 H2 fp (X.pn++pins)) [] (List.replicate n none++gA σ ix) H' s'∧tn i s'.heap∧(∀b∈fp,H' b=none)∧W i k H') ?_ m0
   ⟨0,_,IB,T.keep _ _ _ bD λb _ o e=>old b o e,λb hb=>?_,AO⟩
  ·rintro k s3 ⟨i,H3,I3,bG,v3,w3⟩;rcases turn i k H3 w3 with⟨stop,qn⟩|⟨go,step⟩
   ·refine aK (T.done (X.cH N' aD C s2 H2 fp (X.pn++pins)) rfl rfl rfl hc i [] s3 _ H3 _ I3 (GA v3) bG stop) λr s4 ⟨hr,I4⟩=>?_;subst hr;let⟨m4,hm4,_⟩:=id I4.loc;refine Gx D C s4 H3 m4 (back I4) hm4 (λh' t' σ' s5 I5 sb=>I5.turned (it:=C) (λb o hb e=>(sb.2 b hb).trans e) I4.free qf (.inr (dM I2.sz vq)) mV neP) qf mV qn
   ·refine aK (T.item (X.cH N' aD C s2 H2 fp (X.pn++pins)) rfl rfl rfl hc i [] s3 _ H3 _ I3 (GA v3) bG go) λr s4 ⟨u,hr,h4⟩=>?_;subst hr;refine aK h4 λ_ s5 ⟨v,H5,I5,r5,y5,fP,Gf⟩=>?_;let Gg:=I5.pinned (GA Gf) (T.obj _ _ fP);let fin:∀{ow:St}{H7:Hp}{s7:Shared},ow.length=n→Inv (X.cH N' aD C s2 H2 fp (X.pn++pins)) ([]++uL fp s5.heap) (ow++gA σ ix) H7 s7→∀{m':Nat},m'<k→W (i+1) m' H7 →
      ∃m,m<k∧∃i H',Inv (X.cH N' aD C s2 H2 fp (X.pn++pins)) [] (List.replicate n none++gA σ ix) H' s7∧tn i s7.heap∧(∀b∈fp,H' b=none)∧W i m H':=λ{ow H7 s7} how I7 {m'} hm w7=>by
     refine⟨m',hm,i+1,H7,I7.yf.weak (by rw[fw,fw,how,z8]) (λj q e=>?_),T.keep _ _ _ fP λb hb o e=>(I7.pin (b,o) (jD _ (jD _ (x5 hb e)))).1,λb hb=>?_,w7⟩
     ·by_cases hj:j<n
      ·rw[p8 (by simpa using hj),vI,if_pos hj]at e;cases e
      ·rw[List.getElem?_append_right (by simpa using hj)]at e;rw[List.getElem?_append_right (by omega),how];simpa using e
     ·let⟨o,e,d⟩:=T.obj _ _ fP b hb;exact(I7.pin (b,o) (jD _ (jD _ (x5 hb e)))).2.1
    refine gb (hg C s2 H2 fp (X.pn++pins) _ s5 _ H5 v u _ Gg r5 (step v H5 y5)) (λ_ s6 ⟨σ6,H6,I6,e1,⟨ow,how,e2⟩,q6⟩=>?_) λ_ _ z=>z.elim;subst e1 e2;refine gb (gP C s2 H2 fp (X.pn++pins) _ s6 _ _ _ I6 q6) (λb s7 ⟨H7,I7,q7⟩=>?_) λ_ _ z=>z.elim;cases b with
    |false =>
     rw[if_neg bx]at q7 ⊢;let⟨m',hm,w7⟩:=q7;exact fin how I7 hm w7
    |true =>
     rw[if_pos rfl]at q7 ⊢;refine gb (hX C s2 H2 fp (X.pn++pins) _ s7 _ _ _ I7 q7) (λuy s8 ⟨y,H8,I8,r8,ys,qk,hl,m',hm,w8⟩=>?_) λ_ _ z=>z.elim;refine gb (Jx (X:=X.cH N' aD C s2 H2 fp (X.pn++pins)) _ s8 _ H8 (.ref D) [y] (.ref D) [uy] (λ_ H'=>H'=upd H8 D (.lst (ys++[y]))) I8 rfl (.cons r8 .nil) ⟨D,ys,y,rfl,rfl,qk,hl,rfl⟩) (λ_ s9 ⟨z,H9,I9,_,q9⟩=>?_) λ_ _ z=>z.elim;subst q9;exact fin how I9 hm w8
  ·show upd H2 D (.lst []) b=none;let l:=EW b hb;rw[aI (λq=>by rw[q,←hD]at l;exact kf _ l)];exact(f2 b hb).1
 exact codeAny_compStart_list (loop _ rfl) (T.self X.A 0 _ _ _ (T.keep _ _ _ bD λb _ o e=>old b o e) (loop _ rfl))
def IW{pins:Qxq}{σ:St}{H2:Hp}{s2:Shared}{it:Addr}{fp:List Addr}{tn:Nat→Heap→Prop}{J:It}{RR:Value→Addr→Result→Shared→Prop}{E:Qzx}{Qd:Addr→Hp→Prop}
  (ok:mz X.N N' X.env.scope aD x ix) (hc:X.calm=true) (I2:Inv X pins σ H2 s2) (T:Turn X.prog X.w X.K (.Name x px) J fp it tn) (bD:tn 0 s2.heap) (f2:∀b∈fp,jY X pins H2 b)
  (gP:∀C s₂ H₂ fp pn,oA (X.cH N' aD C s₂ H₂ fp pn) ifs tc) (hX:∀C s₂ H₂ fp pn,PE (X.cH N' aD C s₂ H₂ fp pn) elt te)
  (hW:∀D,H2 D=none→vb J D H2 (gA σ ix) tc te Qd)
  (Gx:∀D C s4 H4 m,Inv X pins σ H4 s4→s4.heap.Ns C m→(∀(h':Heap) (t':Nat) (σ':St) (s5:Shared),Inv X pins σ' H4 s5→Heap.SameBut C s5.heap h'→Inv X pins σ' H4 { s5 with heap:=h',toks:=t' })→C≠X.env.locals→(∀y c,X.env.cells.lookup y=some c→c≠C)→Qd D H4→RR (.ref D) C (.ok .next) s4) :
  wpAny (model X.prog X.w) X.A (newList []) (λacc s₃=>wpAny (model X.prog X.w) X.A (newFunctionEnv aD X.env.globals (pG aD X.env) [] X.env.qual none .none (some X.env)) (λvp s₄ =>
   codeAny (model X.prog X.w) X.A (.compStart (.ListComp elt [⟨.Name x px,iter,ifs,0⟩] aD pos) 0 (.ref it) acc { vp with scope:=relabel aD X.env }) (RR acc vp.locals) s₄) E s₃) E s2:=by
 let kJ:∀C s₂ H₂ fp pn,(X.cH N' aD C s₂ H₂ fp pn).env.scope.names.lookup x=some .local:=λ_ _ _ _ _=>lookup_relabel_local ok.loc;exact Ud ok.g (λC s₂ H₂ fp pn=>K1 (X:=X.cH N' aD C s₂ H₂ fp pn) (i:=0) ok.nd ok.hd (.inl (kJ C s₂ H₂ fp pn)) (.inr (kJ C s₂ H₂ fp pn))) hc I2 T bD f2 gP hX (λD hD=>(hW D hD).g) Gx
def yr(ok:mz X.N N' X.env.scope aD x ix)(hc:X.calm=true)(hi:PI X (.Name x px) iter wi)(gP:∀C s₂ H₂ fp pn,oA (X.cH N' aD C s₂ H₂ fp pn) ifs tc)(hX:∀C s₂ H₂ fp pn,PE (X.cH N' aD C s₂ H₂ fp pn) elt te)
  (hs:∀x,foldedSetIterable iter X.env x=pure x:=by intro _;rfl):PE X (.ListComp elt [⟨.Name x px,iter,ifs,0⟩] aD pos) (rA wi ix tc te):=by
 intro pins s σ H Q I h;rw[eval_ListComp];refine wpAny_comprehension_free (use:=none) rfl hs (Ii λy hy e=>I.ok.has y.1 (.inl (ok.free y hy e))) ok.kind ok.names (aK (hi pins s σ H _ I h) λv s1 h1=>aK h1 λAA s2 h2=>?_);let⟨it,fp,tn,J,H2,e,I2,T,bD,f2,hW⟩:=h2;subst e;refine IW (RR:=λacc C=>compPost (model X.prog X.w) X.A X.xe none (EP X pins σ Q) acc C) (Qd:=λD H=>Q (.ref D) H) ok hc I2 T bD f2 gP hX hW ?_;intro D C s4 H4 m I4 sQ tr _ _ q;exact⟨m,sQ,λh' sb=>⟨.ref D,H4,tr h' s4.toks σ s4 I4 sb,rfl,q⟩⟩
def Uw{i:Nat}{y:Str}{py vt:Pos}(hN:X.N.Nodup)(GB:X.N[i]?=some y)(hy:X.env.scope.names.lookup y=some .local)(ok:mz X.N N' X.env.scope aD x ix)(hc:X.calm=true)(hi:PI X (.Name x px) iter wi)(gP:∀C s₂ H₂ fp pn,oA (X.cH N' aD C s₂ H₂ fp pn) ifs tc)
  (hX:∀C s₂ H₂ fp pn,PE (X.cH N' aD C s₂ H₂ fp pn) elt te) (GC:swapsWith (.ListComp elt [⟨.Name x px,iter,ifs,0⟩] aD pos) (some (.Name y py)) vt.line X.env=pure true:=by rfl)
  (hs:∀x,foldedSetIterable iter X.env x=pure x:=by intro _;rfl):PS X (.Assign [.Name y py] (.ListComp elt [⟨.Name x px,iter,ifs,0⟩] aD pos) vt) (iy (rA wi ix tc te) (gW i)):=by
 intro pins s σ H D I h;rw[exec_Assign_Name_used _ _ _ _ GC];refine aA (z6 (aA ?_));show wpAny _ X.A (do let _ ←comprehension (.ListComp elt [⟨.Name x px,iter,ifs,0⟩] aD pos) aD X.env _ (newList []) false (eval iter X.env) (some (assign (.Name y py) X.env))) _ _ s;refine aA (gb (wpAny_comprehension_free (use:=some (assign (.Name y py) X.env)) (Q:=λ_ s'=>SP X pins D .next s') rfl hs (Ii λy hy e=>I.ok.has y.1 (.inl (ok.free y hy e))) ok.kind ok.names
  (aK (hi pins s σ H _ I h) λv s1 h1=>aK h1 λAA s2 h2=>?_)) (λ_ s' hq=>aO (aO hq)) λ_ _ e=>e)
 let⟨it,fp,tn,J,H2,e,I2,T,bD,f2,hW⟩:=h2;subst e;refine IW (RR:=λacc C=>compPost (model X.prog X.w) X.A X.xe (some (assign (.Name y py) X.env)) (λ_ s'=>SP X pins D .next s') acc C) (Qd:=λB H=>D.nx (σ.set i (some (.ref B))) H) ok hc I2 T bD f2 gP hX hW ?_;intro B C s4 H4 m I4 sQ tr qf mV q;show wpAny _ X.A (assign (.Name y py) X.env (.ref B)) _ _ s4;refine wpAny_assign_Name (Js I4 hN GB (.inl hy) (show RelV (.ref B) (.ref B)from rfl) (λs5 I5 ⟨a,sb,ha⟩=>?_) (.inr hy));let hCa:C≠a:=by
  rcases ha with e|e
  ·rw[e];exact qf
  ·exact lG (mV y a e)
 exact⟨m,sQ.sameBut sb hCa,λh' sb'=>⟨_,H4,tr h' s5.toks _ s5 I5 sb',q⟩⟩
end
def iQ(h:Heap)(d:Addr)(es:Array DictEntry)(ep:Nat):Prop:=∃o,h.get? d=some o∧o.ExactDict∧o.data=.dict es ep
def iQ.ty{s:Shared}{d:Addr}{es:Array DictEntry}{ep:Nat}(x:iQ s.heap d es ep):s.TypeIs (.ref d) "dict" := let ⟨o,ho,hc,_⟩:=x;⟨o,ho,hc.1⟩
def iQ.at{h h':Heap}{d:Addr}{es:Array DictEntry}{ep:Nat}(x:iQ h d es ep)(e:∀o,h.get? d=some o→h'.get? d=some o):iQ h' d es ep:=let ⟨o,ho,r⟩:=x;⟨o,e _ ho,r⟩
def iQ.lt{h:Heap}{d:Addr}{es:Array DictEntry}{ep:Nat}(x:iQ h d es ep):d<h.objs.size:=let ⟨_,ho,_⟩:=x;bZ ho
section
variable {prog:Program}{w:World}{A:Around}{E:Qzx}{s:Shared}{d it:Addr}{es:Array DictEntry}{i ep:Nat}
def IX{Q:Qzx}(hd:(d==sysModules)=false)(hm:iQ s.heap d es ep)
  (hQ:Q (.ref s.heap.objs.size) { s with heap:=s.heap.push { cls:=.type "dict_keyiterator",data:=.fields #[.ref d,.int 0 0,.int es.size 0,.int ep 0] } }):wpAny (model prog w) A (pyIter (.ref d)) Q E s:=by
 let⟨o,ho,hc,rN⟩:=id hm;let hT:=hm.ty;refine wpAny_pyIter_slot hT F.slot_dict_iter (pY F.slot_dict_iter hT F.entry_dict_iter ?_ (F.args_dict_iter_1 _));unfold Builtin.«dict.__iter__»;refine aA ?_;unfold Builtin.Dict.dictSlotNone;refine aA (wpAny_notOrdered_dict hT ?_);show wpAny _ _ (pure (Value.ref d)) _ _ s;refine aO ?_;show wpAny _ _ (Builtin.Dict.showsAll d >>= _) _ _ s;unfold Builtin.Dict.showsAll;rw[if_neg (by rw[hd];exact bx)];refine aA (aO ?_);refine aA (Af ho rN ?_);refine aA (vL ho rN ?_);refine aA (n8 (aO ⟨_,rfl, "dict_keyiterator",_,⟨_,gD _ rfl,rfl⟩,vM.lookup,?_⟩));simpa[rawInt]using hQ
def IY{e:DictEntry}{Q:Option Value→Shared→Prop}(hit:s.heap.IsKeyIter it d i es.size ep)(hm:iQ s.heap d es ep)(hx:es[i]?=some e)
  (hQ:∀h',h'.IsKeyIter it d (i+1) es.size ep→Heap.SameBut it s.heap h'→Q (some e.key) { s with heap:=h' }):wpAny (model prog w) A (pyNext (.ref it)) Q E s:=by
 let⟨o,ho,hc,hd⟩:=id hit;let⟨od,wj,iZ,wm⟩:=id hm;unfold pyNext;refine aA (wpAny_attempt (Aa (name:=Str.ofString "__next__") hit.typeIs vM (pY vM hit.typeIs Qr ?_ (Qs _))));refine aA (aO ?_);refine aA ?_;refine aA ?_
 (first|refine aA (Ag hit.typeIs (aO ?_))|refine aA (Ah hit.typeIs (aO ?_)));refine aA (wpAny_fieldsOf ho hd ?_)
 let EY:Builtin.Dict_items.ownsTuple "dict_keyiterator" = false:=by decide +kernel
 simp only[EY,Bool.false_eq_true,if_false];show wpAny _ _ (if (Value.ref d==Value.none)=true then _ else _) _ _ s;rw[if_neg (show ¬((Value.ref d==Value.none)=true)from bx)];refine aA (aO ?_);refine aA (Af wj wm ?_);rw[if_neg (by simp)];refine aA (aO ?_);refine aA (vL wj wm ?_);rw[if_neg (by simp)];refine aO ?_;let aX:i<es.size:=(Qt.mp hx).1;let lP:es[i]=e:=(Qt.mp hx).2;simp only[show ¬((i:Int)<0)from by omega,if_false,Int.toNat_natCast,Array.getElem?_eq_getElem aX];refine aA ?_
 (first|refine aA (Ag hit.typeIs (aO ?_))|refine aA (Ah hit.typeIs (aO ?_)));refine aA (wpAny_isOneOf_keyiter hit.typeIs ?_)
 show wpAny _ _ (setField (.ref it) 1 (rawInt ((i:Int)+1)) >>= _) _ _ s;refine aA (wpAny_setField ho hd (by simp) ?_);let zH:(s.heap.update it (Obj.mapFields (·.setIfInBounds 1 (rawInt ((i:Int)+1))))).IsKeyIter it d (i+1) es.size ep:=⟨_,Heap.get?_update_self _ ho (Obj.isFreed_of_fields (Obj.data_mapFields hd _)),(Obj.cls_mapFields ..).trans hc,by rw[Obj.data_mapFields hd];simp[rawInt]⟩;refine aA (kg ?_);refine aA (wpAny_isOneOf_keyiter (s:={ s with heap:=s.heap.update it (Obj.mapFields (·.setIfInBounds 1 (rawInt ((i:Int)+1)))) }) zH.typeIs ?_);show wpAny _ _ (pure es[i].key) _ _ _;rw[lP];exact aO (aO ⟨_,rfl,aO (hQ _ zH (Heap.SameBut.update ..))⟩)
def JA{Q:Option Value→Shared→Prop}(hh:A.handled=none)(hit:s.heap.IsKeyIter it d i es.size ep)(hm:iQ s.heap d es ep)(hx:es.size≤i)
  (hQ:∀h',Heap.ExtBut it s.heap h'→Q none { s with heap:=h' }):wpAny (model prog w) A (pyNext (.ref it)) Q E s:=by
 let⟨o,ho,hc,hd⟩:=id hit;let⟨od,wj,iZ,wm⟩:=id hm;unfold pyNext;refine aA (wpAny_attempt (Aa (name:=Str.ofString "__next__") hit.typeIs vM (pY vM hit.typeIs Qr ?_ (Qs _))));refine aA (aO ?_);refine aA ?_;refine aA ?_
 (first|refine aA (Ag hit.typeIs (aO ?_))|refine aA (Ah hit.typeIs (aO ?_)));refine aA (wpAny_fieldsOf ho hd ?_)
 let EY:Builtin.Dict_items.ownsTuple "dict_keyiterator" = false:=by decide +kernel
 simp only[EY,Bool.false_eq_true,if_false];show wpAny _ _ (if (Value.ref d==Value.none)=true then _ else _) _ _ s;rw[if_neg (show ¬((Value.ref d==Value.none)=true)from bx)];refine aA (aO ?_);refine aA (Af wj wm ?_);rw[if_neg (by simp)];refine aA (aO ?_);refine aA (vL wj wm ?_);rw[if_neg (by simp)];refine aO ?_;simp only[show ¬((i:Int)<0)from by omega,if_false,Int.toNat_natCast,Array.getElem?_eq_none hx];refine aA ?_
 (first|refine aA (Ag hit.typeIs (aO ?_))|refine aA (Ah hit.typeIs (aO ?_)));show wpAny _ _ (setField (.ref it) 0 .none >>= _) _ _ s
 refine aA (wpAny_setField ho hd (by simp) ?_);show wpAny _ _ (newExc (.type "StopIteration") [] >>= _) _ _ _;refine aA ?_;simp only[newExc,newTuple];refine aA (n8 ?_ (by size_fits));refine aA (m:=firstArgMember _ _) (wpAny_of_eq (a:=Value.none) (by first|rfl | (simp only[firstArgMember];rfl)) ?_);refine n8 ?_ (by size_fits);simp only[raiseNew];refine aA (wpAny_handled ?_);rw[show A.in1.handled=none from hh];refine aA (aO (wpAny_throw ?_));refine aA (wpAny_isInstance (T := "StopIteration") (b:=true) ⟨_,gD _ rfl,rfl⟩ isSubtype_stop ?_);exact aO (hQ _ (((Heap.SameBut.update ..).extBut.push _).push _))
def Ue(hh:A.handled=none)(I d:Addr)(gi:d≠I)(es:Array DictEntry)(ep:Nat) :
  Walks prog w A I [I,d] [I] es.size (λi v=>∃e,es[i]?=some e∧v=e.key) (λi h=>h.IsKeyIter I d i es.size ep∧iQ h d es ep) where
 sub:=λb hb=>by
  let e:b=I:=by simpa using hb
  rw[e];exact cg
 frame:=λ_ _ _ st hk=>⟨st.1.at λo e=>hk I cg o e,st.2.at λo e=>hk d (c9 _ cg) o e⟩
 item:=λi s Q E hi st hQ=>IY st.1 st.2 (e:=es[i]) (by simp[hi]) λh' zH m8=>hQ _ h' s.toks ⟨es[i],by simp[hi],rfl⟩ ⟨zH,st.2.at λo e=>m8.extBut d o gi e⟩ λb o hb e=>m8.extBut b o (λz=>hb (by rw[z];exact cg)) e
 done:=λs Q E st hQ=>JA hh st.1 st.2 (aW _) λh' he'=>hQ h' s.toks λb o hb e=>he' b o (λz=>hb (by rw[z];exact cg)) e
 self:=λ_ _ _ _ st hQ=>wpAny_pyIter_keyiter st.1 hQ
def JB(lo:(d==sysModules)=false):PySem.W.KdlSrc prog w "dict" d d es.size (λi v=>∃e,es[i]?=some e∧v=e.key) (λh=>iQ h d es ep) where
 type:=λ_ hm=>hm.ty
 there:=λ_ hm=>⟨hm.lt,hm.lt⟩
 keep:=λ_ _ hm hk=>hm.at λo e=>hk d (.inl rfl) o e
 notList:=by decide +kernel
 notTuple:=by decide +kernel
 hint:=λ_ _ _ _ hm hq=>PySem.W.kdl_hint_dict hm.ty hq
 iter:=λ_ _ hh hm=>⟨_,_,(λ_ _ hq=>IX lo hm hq),Ue hh _ d (fH hm.lt) es ep,⟨⟨_,gD _ rfl,rfl,rfl⟩,hm.at λo e=>cG _ e⟩⟩
end
def qV(H:Hp):List (List Key)→List Addr→Prop:=Paired λk b=>H b=some (.tup (k.map kV))
section
variable {X:Cx}
theorem CD:∀(bs:List Addr),Vals (bs.map V.ref) (bs.map Value.ref)
 |[]=>.nil
 |_::r=>.cons rfl (CD r)
theorem Dp{H:Hp}:∀{aj:List (List Key×V)}{xs:List (List Key×Addr×Value)},Paired (λ(p:List Key×V) (q:List Key×Addr×Value)=>p.1=q.1∧H q.2.1=some (.tup (p.1.map kV))∧RelV p.2 q.2.2) aj xs→qV H (aj.map (·.1)) (xs.map (·.2.1))
 |_,_,.nil=>.nil
 |_,_,.cons r t=>.cons r.2.1 (Dp t)
def T6(hc:X.calm=true):iP X (.type "list") (λxs H Q=>∃d aj,xs=[.ref d]∧H d=some (.dT aj)∧∀l bs,H l=none→qV H (aj.map (·.1)) bs→Q (.ref l) (upd H l (.lst (bs.map V.ref)))):=by
 intro pins s σ H xs us Q I r h;let⟨d,aj,rfl,hd,q⟩:=h;let⟨u,rfl,rx⟩:=vals1 r;cases rx;let⟨hz,wo,ys,rel,o,es,ep,ho,hex,rN,hX,iG⟩:=(show cK X.prog X.w H s.heap d (.dT aj)from I.aH d _ hd);let hlen:es.size=aj.length:=by
  let e1:es.toList.length=ys.length:=by rw[hX,eU]
  let e2:=cM rel;simpa[e2]using e1
 refine PySem.W.kdl_call (JB (es:=es) (ep:=ep) wo) (I.ok.hd hc) ⟨o,ho,hex,rN⟩ (by rw[hlen];exact hz) λh' tk iY c' kp e iX=>?_;let ka:=Dp rel;let hv:iY.toList=(ys.map (·.2.1)).map Value.ref:=by
  refine List.ext_getElem? λj=>?_;rw[gY,cA];cases ej:ys[j]? with
  |none =>
   have:ys.length≤j:=Ai.mp ej;let e1:es.size=ys.length:=by rw[hlen,cM rel]
   let e3:iY.size=es.size:=iX.1;exact Ai.mpr (by rw[n6];omega)
  |some y =>
   let hj:j<ys.length:=(a9.mp ej).1;let e1:es.size=ys.length:=by rw[hlen,cM rel]
   let e3:iY.size=es.size:=iX.1;let QV:j<iY.size:=by omega
   let⟨en,GD,hk⟩:=iX.2 j iY[j] (by simp[QV]);let vv:es[j]?=some (entryOfKey (tupleKind (cN X.prog X.w)) y):=by rw[←n9,hX,cA,ej];rfl
   rw[GD]at vv;cases vv;rw[n9,Qu QV,hk];rfl
 refine⟨.ref s.heap.objs.size,upd H s.heap.objs.size (.lst ((ys.map (·.2.1)).map V.ref)),I.laid kp (aW _) ?_,rfl,q _ _ (I.aH.fresh (aW _)) ka⟩;refine(show cK X.prog X.w _ h' _ (.lst ((ys.map (·.2.1)).map V.ref)) from⟨?_,iY.toList,c',?_,?_⟩)
 ·rw[eU,eU,←cM rel];exact hz
 ·rw[hv];exact CD _
 ·rw[Array.toArray_toList];exact e
abbrev Pj(K:Qzk)(n:Nat)(t:i3):TG:=λv σ H Q=>∃a xs,v=.ref a∧b0 K H a xs∧xs.length=n∧t xs σ H Q
def ZK{es:Qjq}{k:Nat}{pos:Pos}{t:i3}{n:Nat}(hc:X.calm=true)(h:sJ X es t)
  (hn:(assignEach es X.env).length=n:=by rfl) (fI:(assignEach es X.env).findIdx? (·.1)=none:=by rfl):PG X (.Tuple es k pos) (Pj X.K n t):=by
 intro pins s σ H v u Q I r hw;let⟨a,xs,e1,hq,hl,hw⟩:=hw;subst e1;cases r;let⟨its,rv,pl,hz⟩:=I.list hq;rw[assign_Tuple];refine aA (z6 ?_);unfold unpack;let hlen:(assignEach es X.env).length=its.toArray.size:=by rw[hn,←hl,rv.length];simp
 rw[hlen,fI];refine aA (kg (PySem.W.kun_itemsOf (I.ok.hd hc) pl.isList λh' hx=>?_));let I1:Inv X pins σ H { s with heap:=h' }:=I.kept (t':=s.toks) λb o e=>hx b o (fH (bZ e)) e;exact h pins _ σ H xs _ Q I1 (by simpa using rv) hw
mutual
inductive Dn (K:Qzk)(H:Hp):V→PyData→Prop
 |non:Dn K H .non .none
 |bl (b:Bool):Dn K H (.bl b) (.bool b)
 |int (i:Int):Dn K H (.int i) (.int i)
 |str (x:Str):Dn K H (.str x) (.str x)
 |lst {a:Addr}{xs:List V}{ds:List PyData}:b0 K H a xs→bS K H xs ds→Dn K H (.ref a) (.list ds)
 |tup {a:Addr}{xs:List V}{ds:List PyData}:bC K H a xs→bS K H xs ds→Dn K H (.ref a) (.tuple ds)
inductive bS (K:Qzk)(H:Hp):List V→List PyData→Prop
 |nil:bS K H [] []
 |cons {v:V}{d:PyData}{vs:List V}{ds:List PyData}:Dn K H v d→bS K H vs ds→bS K H (v::vs) (d::ds)
end
abbrev dV:V→PyData
 |.non=>.none
 |.bl b=>.bool b
 |.int i=>.int i
 |.str x=>.str x
 |_=>.none
def Inv.Le{pins:Qxq}{σ:St}{H:Hp}{s:Shared}{a:Addr}{xs ys:List V}(I:Inv X pins σ H s)(h:b0 X.K H a xs)(h':bC X.K H a ys):False:=by
 let⟨_,_,⟨o,n,e1,e2,_⟩,_⟩:=I.list h;let⟨_,_,⟨o',k1,k2,_⟩,_⟩:=I.tuple h';rw[e1]at k1;cases k1;rw[e2]at k2;exact absurd k2 (by simp)
mutual
theorem Dn.unique{pins:Qxq}{σ:St}{H:Hp}{s:Shared}(I:Inv X pins σ H s):∀{v:V}{d d':PyData},Dn X.K H v d→Dn X.K H v d'→d=d'
 |_,_,_,.non,h=>by cases h;rfl
 |_,_,_,.bl _,h=>by cases h;rfl
 |_,_,_,.int _,h=>by cases h;rfl
 |_,_,_,.str _,h=>by cases h;rfl
 |_,_,_,.lst hq hs,h=>by
  cases h with
  |lst kq ks=>cases I.ye hq kq;rw[bS.unique I hs ks]
  |tup kq ks=>exact(I.Le hq kq).elim
 |_,_,_,.tup hq hs,h=>by
  cases h with
  |tup kq ks=>cases I.CT hq kq;rw[bS.unique I hs ks]
  |lst kq ks=>exact(I.Le kq hq).elim
theorem bS.unique{pins:Qxq}{σ:St}{H:Hp}{s:Shared}(I:Inv X pins σ H s):∀{vs:List V}{ds fA:List PyData},bS X.K H vs ds→bS X.K H vs fA→ds=fA
 |_,_,_,.nil,h=>by cases h;rfl
 |_,_,_,.cons h t,k=>by
  cases k with
  |cons h' t'=>rw[Dn.unique I h h',bS.unique I t t']
end
mutual
theorem Dn.refl{K:Qzk}{H:Hp}:∀{v:V}{d:PyData},Dn K H v d→PyData.eqv d d=true
 |_,_,.non=>by simp[PyData.eqv]
 |_,_,.bl _=>by simp[PyData.eqv]
 |_,_,.int _=>by simp[PyData.eqv]
 |_,_,.str _=>by simp[PyData.eqv]
 |_,_,.lst _ hs=>by simp only[PyData.eqv];exact bS.refl hs
 |_,_,.tup _ hs=>by simp only[PyData.eqv];exact bS.refl hs
theorem bS.refl{K:Qzk}{H:Hp}:∀{vs:List V}{ds:List PyData},bS K H vs ds→PyData.eqvAll ds ds=true
 |_,_,.nil=>by simp[PyData.eqvAll]
 |_,_,.cons h t=>by rw[PyData.eqvAll,Dn.refl h,bS.refl t];rfl
end
theorem bS.length{K:Qzk}{H:Hp}:∀{vs:List V}{ds:List PyData},bS K H vs ds→vs.length=ds.length
 |_,_,.nil=>rfl
 |_,_,.cons _ t=>by simp[bS.length t]
mutual
theorem Dn.nT{pins:Qxq}{σ:St}{H:Hp}{s:Shared}(I:Inv X pins σ H s):∀{v:V}{d:PyData},Dn X.K H v d→∀{v':V}{d':PyData},Dn X.K H v' d'→∀{u u':Value},RelV v u→RelV v' u'→∀{A:Around},A.units+min d.depth d'.depth<cLine→SeqAt.EqAt A s u u' (PyData.eqv d d')
 |_,_,.non,_,_,h',_,_,r,r',A,hu=>by
  cases (show _=Value.none from r);cases h' with
  |non=>cases (show _=Value.none from r');exact vG _
  |bl y=>cases (show _=Value.bool y from r');exact SeqAt.EqAt.none_bool y
  |int y=>let⟨t,e⟩:=(show ∃t,_=Value.int y t from r');subst e;exact FK y t
  |str y=>let⟨t,e⟩:=(show ∃t,_=Value.str y t from r');subst e;exact FL y t
  |@lst a xs ds q hs=>cases (show _=Value.ref a from r');let⟨its,rv,pl,_⟩:=I.list q;exact SeqAt.EqAt.none_list pl.isList (dB hu)
  |@tup a xs ds q hs=>cases (show _=Value.ref a from r');let⟨its,rv,pl,_⟩:=I.tuple q;exact SeqAt.EqAt.none_tuple pl (dB hu)
 |_,_,.bl x,_,_,h',_,_,r,r',A,hu=>by
  cases (show _=Value.bool x from r);cases h' with
  |non=>cases (show _=Value.none from r');exact SeqAt.EqAt.bool_none x
  |bl y=>cases (show _=Value.bool y from r');exact SeqAt.EqAt.bool_bool x y
  |int y=>let⟨t,e⟩:=(show ∃t,_=Value.int y t from r');subst e;exact SeqAt.EqAt.bool_int x y t
  |str y=>let⟨t,e⟩:=(show ∃t,_=Value.str y t from r');subst e;exact SeqAt.EqAt.bool_str x y t
  |@lst a xs ds q hs=>cases (show _=Value.ref a from r');let⟨its,rv,pl,_⟩:=I.list q;exact SeqAt.EqAt.bool_list x pl.isList (dB hu)
  |@tup a xs ds q hs=>cases (show _=Value.ref a from r');let⟨its,rv,pl,_⟩:=I.tuple q;exact SeqAt.EqAt.bool_tuple x pl (dB hu)
 |_,_,.int x,_,_,h',_,_,r,r',A,hu=>by
  let⟨tx,ex⟩:=(show ∃t,_=Value.int x t from r);subst ex;cases h' with
  |non=>cases (show _=Value.none from r');exact FH x tx
  |bl y=>cases (show _=Value.bool y from r');exact SeqAt.EqAt.int_bool x tx y
  |int y=>let⟨t,e⟩:=(show ∃t,_=Value.int y t from r');subst e;exact SeqAt.EqAt.int_int x tx y t
  |str y=>let⟨t,e⟩:=(show ∃t,_=Value.str y t from r');subst e;exact FG x tx y t
  |@lst a xs ds q hs=>cases (show _=Value.ref a from r');let⟨its,rv,pl,_⟩:=I.list q;exact SeqAt.EqAt.int_list x tx pl.isList (dB hu)
  |@tup a xs ds q hs=>cases (show _=Value.ref a from r');let⟨its,rv,pl,_⟩:=I.tuple q;exact SeqAt.EqAt.int_tuple x tx pl (dB hu)
 |_,_,.str x,_,_,h',_,_,r,r',A,hu=>by
  let⟨tx,ex⟩:=(show ∃t,_=Value.str x t from r);subst ex;cases h' with
  |non=>cases (show _=Value.none from r');exact FJ x tx
  |bl y=>cases (show _=Value.bool y from r');exact SeqAt.EqAt.str_bool x tx y
  |int y=>let⟨t,e⟩:=(show ∃t,_=Value.int y t from r');subst e;exact FI x tx y t
  |str y=>let⟨t,e⟩:=(show ∃t,_=Value.str y t from r');subst e;exact SeqAt.EqAt.str_str x tx y t
  |@lst a xs ds q hs=>cases (show _=Value.ref a from r');let⟨its,rv,pl,_⟩:=I.list q;exact SeqAt.EqAt.str_list x tx pl.isList (dB hu)
  |@tup a xs ds q hs=>cases (show _=Value.ref a from r');let⟨its,rv,pl,_⟩:=I.tuple q;exact SeqAt.EqAt.str_tuple x tx pl (dB hu)
 |_,_,.lst (a:=b) hq hs,_,_,h',_,_,r,r',A,hu=>by
  cases (show _=Value.ref b from r);let⟨hZ,rb,eV,_⟩:=I.list hq;cases h' with
  |non=>cases (show _=Value.none from r');exact SeqAt.EqAt.list_none eV.isList (dB hu)
  |bl y=>cases (show _=Value.bool y from r');exact SeqAt.EqAt.list_bool y eV.isList (dB hu)
  |int y=>let⟨t,e⟩:=(show ∃t,_=Value.int y t from r');subst e;exact SeqAt.EqAt.list_int y t eV.isList (dB hu)
  |str y=>let⟨t,e⟩:=(show ∃t,_=Value.str y t from r');subst e;exact SeqAt.EqAt.list_str y t eV.isList (dB hu)
  |@tup a xs ds q ks=>cases (show _=Value.ref a from r');let⟨its,rv,pl,_⟩:=I.tuple q;exact SeqAt.EqAt.list_tuple eV.isList pl (dB hu)
  |@lst a xs ds q ks =>
   cases (show _=Value.ref a from r');by_cases e:b=a
   ·subst e;cases I.ye hq q;rw[bS.unique I ks hs];simp only[PyData.eqv];rw[bS.refl hs];exact vG _
   ·let⟨its,rv,pl,_⟩:=I.list q;let n1:=rb.length;let n2:=rv.length;let n3:=bS.length hs;let n4:=bS.length ks;simp only[PyData.eqv];let he:∀j (j1:j<hZ.toArray.size) (j2:j<its.toArray.size),SeqAt.EqAt A.in1 s hZ.toArray[j] its.toArray[j] (SeqAt.pairEq _ _ j):=λj j1 j2=>by
     let z:=bS.nT I hs ks rb rv (A:=A.in1) (Aj hu) j (by simpa using j1) (by simpa using j2);simpa using z
    refine SeqAt.EqAt.of_refs e ?_;by_cases hsz:hZ.toArray.size=its.toArray.size
    ·rw[←SeqAt.eqvAll_same_length (by simp at hsz;omega),show List.length _=hZ.toArray.size by simp;omega];exact SeqAt.RcAt.lists eV.isList pl.isList hsz (dB hu) he
    ·rw[SeqAt.eqvAll_other_length (by simp at hsz;omega)];exact SeqAt.RcAt.lists_lengths eV.isList pl.isList (by simpa using hsz) (dB hu)
 |_,_,.tup (a:=b) hq hs,_,_,h',_,_,r,r',A,hu=>by
  cases (show _=Value.ref b from r);let⟨hZ,rb,eV,_⟩:=I.tuple hq;cases h' with
  |non=>cases (show _=Value.none from r');exact SeqAt.EqAt.tuple_none eV (dB hu)
  |bl y=>cases (show _=Value.bool y from r');exact SeqAt.EqAt.tuple_bool y eV (dB hu)
  |int y=>let⟨t,e⟩:=(show ∃t,_=Value.int y t from r');subst e;exact SeqAt.EqAt.tuple_int y t eV (dB hu)
  |str y=>let⟨t,e⟩:=(show ∃t,_=Value.str y t from r');subst e;exact SeqAt.EqAt.tuple_str y t eV (dB hu)
  |@lst a xs ds q ks=>cases (show _=Value.ref a from r');let⟨its,rv,pl,_⟩:=I.list q;exact SeqAt.EqAt.tuple_list eV pl.isList (dB hu)
  |@tup a xs ds q ks =>
   cases (show _=Value.ref a from r');by_cases e:b=a
   ·subst e;cases I.CT hq q;rw[bS.unique I ks hs];simp only[PyData.eqv];rw[bS.refl hs];exact vG _
   ·let⟨its,rv,pl,_⟩:=I.tuple q;let n1:=rb.length;let n2:=rv.length;let n3:=bS.length hs;let n4:=bS.length ks;simp only[PyData.eqv];let he:∀j (j1:j<hZ.toArray.size) (j2:j<its.toArray.size),SeqAt.EqAt A.in1 s hZ.toArray[j] its.toArray[j] (SeqAt.pairEq _ _ j):=λj j1 j2=>by
     let z:=bS.nT I hs ks rb rv (A:=A.in1) (Aj hu) j (by simpa using j1) (by simpa using j2);simpa using z
    refine SeqAt.EqAt.of_refs e ?_;rw[←SeqAt.eqvAll_eq,←n3,←n4,n1,n2];let z:=SeqAt.RcAt.tuples eV pl (dB hu) he;simpa using z
theorem bS.nT{pins:Qxq}{σ:St}{H:Hp}{s:Shared}(I:Inv X pins σ H s):∀{vs:List V}{ds:List PyData},bS X.K H vs ds→∀{QW:List V}{fA:List PyData},bS X.K H QW fA→∀{us GF:Qxz},Vals vs us→Vals QW GF→∀{A:Around},A.units+min (PyData.depthAll ds) (PyData.depthAll fA)<cLine →
  ∀j (h1:j<us.length) (h2:j<GF.length),SeqAt.EqAt A s us[j] GF[j] (SeqAt.pairEq ds fA j)
 |_,_,.nil=>by
  intro _ _ _ rv _ _ _ j h1 _;cases rv;exact absurd h1 (kl _)
 |_,_,.cons h t=>by
  intro d' _ _ rv sU A hu j h1 h2;cases d' with
  |nil=>cases sU;exact absurd h2 (kl _)
  |cons h' t' =>
   cases rv with
   |cons r q =>
    cases sU with
    |cons r' q' =>
     cases j with
     |zero=>exact Dn.nT I h h' r r' (SeqAt.room_head hu)
     |succ j=>exact bS.nT I t t' q q' (SeqAt.room_tail hu) j (Nat.lt_of_succ_lt_succ h1) (Nat.lt_of_succ_lt_succ h2)
end
inductive pH:PyData→PyData→Prop
 |lst (xs ys:List PyData):pH (.list xs) (.list ys)
 |tup (xs ys:List PyData):pH (.tuple xs) (.tuple ys)
 |non:pH .none .none
abbrev zI(K:Qzk):R2:=λx y H Q=>∃dx dy,Dn K H x dx∧Dn K H y dy∧pH dx dy∧min dx.depth dy.depth≤60∧Q (.bl (PyData.eqv dx dy)) H
abbrev EZ(K:Qzk):R2:=λx y H Q=>∃dx dy,Dn K H x dx∧Dn K H y dy∧pH dx dy∧min dx.depth dy.depth≤60∧Q (.bl (!PyData.eqv dx dy)) H
def Kf{pins:Qxq}{σ:St}{H:Hp}{s:Shared}(I:Inv X pins σ H s){A:Around}{x y:V}{u u':Value}{dx dy:PyData}(hx:Dn X.K H x dx)(hy:Dn X.K H y dy)(l:pH dx dy)(rx:RelV x u)(ry:RelV y u')(hu:A.units+min dx.depth dy.depth<cLine) :
  SeqAt.RcAt A s u u' (PyData.eqv dx dy)∧SeqAt.RcNeAt A s u u' (!PyData.eqv dx dy):=by
 cases l with
 |non =>
  cases hx;cases hy;cases (show u=Value.none from rx);cases (show u'=Value.none from ry);exact⟨SeqAt.RcAt.none_none,SeqAt.RcNeAt.none_none⟩
 |lst ds es =>
  cases hx with
  |@lst b _ _ hq hs =>
  cases hy with
  |@lst a _ _ q ks =>
   cases (show u=Value.ref b from rx);cases (show u'=Value.ref a from ry);let⟨hZ,rb,eV,_⟩:=I.list hq;let⟨its,rv,pl,_⟩:=I.list q;let n1:=rb.length;let n2:=rv.length;let n3:=bS.length hs;let n4:=bS.length ks;simp only[PyData.eqv];let he:∀j (j1:j<hZ.toArray.size) (j2:j<its.toArray.size),SeqAt.EqAt A.in1 s hZ.toArray[j] its.toArray[j] (SeqAt.pairEq ds es j):=λj j1 j2=>by
    let z:=bS.nT I hs ks rb rv (A:=A.in1) (Aj hu) j (by simpa using j1) (by simpa using j2);simpa using z
   by_cases hsz:hZ.toArray.size=its.toArray.size
   ·let e:ds.length=hZ.toArray.size:=by simp;omega
    rw[←SeqAt.eqvAll_same_length (show ds.length=es.length by simp at hsz;omega),e];exact⟨SeqAt.RcAt.lists eV.isList pl.isList hsz (dB hu) he,SeqAt.RcNeAt.lists eV.isList pl.isList hsz (dB hu) he⟩
   ·rw[SeqAt.eqvAll_other_length (show ds.length≠es.length by simp at hsz;omega)];exact⟨SeqAt.RcAt.lists_lengths eV.isList pl.isList (by simpa using hsz) (dB hu),SeqAt.RcNeAt.lists_lengths eV.isList pl.isList (by simpa using hsz) (dB hu)⟩
 |tup ds es =>
  cases hx with
  |@tup b _ _ hq hs =>
  cases hy with
  |@tup a _ _ q ks =>
   cases (show u=Value.ref b from rx);cases (show u'=Value.ref a from ry);let⟨hZ,rb,eV,_⟩:=I.tuple hq;let⟨its,rv,pl,_⟩:=I.tuple q;let n1:=rb.length;let n2:=rv.length;let n3:=bS.length hs;let n4:=bS.length ks;simp only[PyData.eqv];let he:∀j (j1:j<hZ.toArray.size) (j2:j<its.toArray.size),SeqAt.EqAt A.in1 s hZ.toArray[j] its.toArray[j] (SeqAt.pairEq ds es j):=λj j1 j2=>by
    let z:=bS.nT I hs ks rb rv (A:=A.in1) (Aj hu) j (by simpa using j1) (by simpa using j2);simpa using z
   let z1:=SeqAt.RcAt.tuples eV pl (dB hu) he;let z2:=SeqAt.RcNeAt.tuples eV pl (dB hu) he;rw[←SeqAt.eqvAll_eq ds es,←n3,←n4,n1,n2];exact⟨by simpa using z1,by simpa using z2⟩
def MR(hu:X.A.units+64<cLine):bO X (compareOp .Eq) (zI X.K):=by
 intro pins s σ H x y v u Q I rx ry h;let⟨dx,dy,hx,hy,l,hd,q⟩:=h;exact(Kf I hx hy l rx ry (A:=X.A) (by omega)).1 X.prog X.w X.xe _ ⟨.bl _,H,I,rfl,q⟩
def ZL(hu:X.A.units+64<cLine):bO X (compareOp .NotEq) (EZ X.K):=by
 intro pins s σ H x y v u Q I rx ry h;let⟨dx,dy,hx,hy,l,hd,q⟩:=h;exact(Kf I hx hy l rx ry (A:=X.A) (by omega)).2 X.prog X.w X.xe _ ⟨.bl _,H,I,rfl,q⟩
abbrev E1(K:Qzk)(neg:Bool):R2:=λx y H Q=>∃p xs ds dx,y=.ref p∧(b0 K H p xs∨bC K H p xs)∧bS K H xs ds∧Dn K H x dx∧dx.depth≤50∧Q (.bl (if neg then !(ds.any λd=>PyData.eqv d dx)else ds.any λd=>PyData.eqv d dx)) H
def Kg{pins:Qxq}{σ:St}{H:Hp}{s:Shared}(I:Inv X pins σ H s){A:Around}{x:V}{u:Value}{dx:PyData}(hx:Dn X.K H x dx)(rx:RelV x u)(hu:A.units+dx.depth<cLine):∀{xs:List V}{ds:List PyData}{its:Qxz},bS X.K H xs ds→Vals xs its →
  ∃e:Value→Bool,(∀y∈its,SeqAt.EqAt A s y u (e y))∧its.any e=ds.any λd=>PyData.eqv d dx:=by
 intro xs ds its hs rv
 classical
 refine⟨λy=>decide (∃v d,Dn X.K H v d∧RelV v y∧PyData.eqv d dx=true),λy hy=>?_,?_⟩
 ·let key:∀{xs:List V}{ds:List PyData}{its:Qxz},bS X.K H xs ds→Vals xs its→y∈its→∃v d,Dn X.K H v d∧RelV v y:=λ{xs}=>by
   induction xs with
   |nil=>intro ds its hs rv hy;cases rv;exact nomatch hy
   |cons v r ih =>
    intro ds its hs rv hy;cases rv with
    |cons a b =>
     cases hs with
     |cons c d =>
      rcases dN.mp hy with e|e
      ·subst e;exact⟨_,_,c,a⟩
      ·exact ih d b e
  let⟨v,d,hv,ry⟩:=key hs rv hy;let z:=Dn.nT I hv hx ry rx (A:=A) (eD (Nat.add_le_add_left (Nat.min_le_right _ _) _) hu);let e:PyData.eqv d dx=decide (∃v d,Dn X.K H v d∧RelV v y∧PyData.eqv d dx=true):=by
   cases q:PyData.eqv d dx with
   |true=>exact(dP ⟨v,d,hv,ry,q⟩).symm
   |false =>
    refine(eQ ?_).symm;rintro⟨v',d',h1,h2,h3⟩;cases RelV.inj ry h2;rw[Dn.unique I h1 hv,q]at h3;cases h3
  rw[e]at z;exact z
 ·induction xs generalizing ds its with
  |nil=>cases rv;cases hs;rfl
  |cons v r ih =>
   cases rv with
   |cons a b =>
    cases hs with
    |@cons _ d0 _ _ c d =>
     rw[qa,qa,ih d b];congr 1;cases q:PyData.eqv d0 dx with
     |true=>exact dP ⟨v,d0,c,a,q⟩
     |false =>
      refine eQ ?_;rintro⟨v',d',h1,h2,h3⟩;cases RelV.inj a h2;rw[Dn.unique I h1 c,q]at h3;cases h3
def U1(hu:X.A.units+64<cLine):bO X (compareOp .NotIn) (E1 X.K true):=by
 intro pins s σ H x y v u Q I rx ry h;let⟨p,xs,ds,dx,rfl,hq,hs,hx,hd,q⟩:=h;cases ry;rcases hq with hq|hq
 ·let⟨its,rv,pl,_⟩:=I.list hq;let⟨e,he,E2⟩:=Kg I hx rx (A:=X.A.in1) (show X.A.units+1+dx.depth<cLine by omega) hs rv;refine SeqAt.notIn_listAt e pl.isList (λw hw=>he w (by simpa using hw)) ⟨.bl _,H,I,rfl,?_⟩;rw[show its.toArray.any e=its.any e by simp,E2];exact q
 ·let⟨its,rv,pl,_⟩:=I.tuple hq;let⟨e,he,E2⟩:=Kg I hx rx (A:=X.A.in1) (show X.A.units+1+dx.depth<cLine by omega) hs rv;refine SeqAt.notIn_tupleAt e pl (λw hw=>he w (by simpa using hw)) ⟨.bl _,H,I,rfl,?_⟩;rw[show its.toArray.any e=its.any e by simp,E2];exact q
end
def aeu(D:Addr)(H H':Hp):Prop:=∀b o,b≠D→H b=some o→H' b=some o
section
variable {X:Cx}{K:Qzk}
def yt(h:X.K=K):lN X (sO K):=by subst h;exact ZC
def Ux(h:X.K=K):bO X (compareOp .In) (v9 K false):=by subst h;exact UW
def TR(h:X.K=K):bO X (compareOp .NotIn) (v9 K true):=by subst h;exact TY
def U2(h:X.K=K):iP X (.builtin "len") (λxs H Q=>∃x n,xs=[x]∧EE K x H n∧Q (.int n) H):=by subst h;exact VB
def U3{a:Expr}{ta:TE}(h:X.K=K)(ha:PE X a ta)(he:∀whole,isTrue a X.env whole=(do let v ←whole;standAt a.pos;holding [v] (truthy v))):PT X a (λσ H Q=>ta σ H λx H'=>∃k,zB K x H' k∧Q k H'):=by subst h;exact VA ha he
def VL{tg l:Expr}{tl:TE}(h:X.K=K)(hl:PE X l tl):PI X tg l (Eb K tl):=by subst h;exact W9 hl
end
end L2
namespace My
open PySem PySem.Spec PyProof.Rows L2
def aG.new{H:Hp}{p:Addr}{o:HO}(h:H p=none):aG H (upd H p o):=λb u e=>by
 rw[aI (eZ e h)];exact e
theorem aG.none{H H':Hp}{p:Addr}(s:aG H H')(h:H' p=none):H p=none:=s.free h
def adK{σ:L2.St}{H:Hp}{A B:Hp→Prop}(h:A H):zF σ H λb H3=>if b=true then A H3 else B H3:=by
 show if true=true then A H else B H;exact adI h
theorem Paired.at{α β:Type}{F:α→β→Prop}:∀{l:List α}{m:List β},Paired F l m→∀{i:Nat}{b:β},m[i]?=some b→∃a,l[i]?=some a∧F a b
 |_,_,.nil,_,_,h=>by simp at h
 |_,_,.cons r t,0,_,h=>by simp at h;subst h;exact⟨_,rfl,r⟩
 |_,_,.cons r t,i+1,b,h=>by
  let⟨a,e,q⟩:=Paired.at t (i:=i) (b:=b) (by simpa using h);exact⟨a,by simpa using e,q⟩
inductive Rw where
 |reckon (x s:Str) (a b:Key)|copy (x:Str) (a:Key)|say (a:Key)|go (n:Int)|part (a:Key) (n:Int)|fin
abbrev Rw.vs:Rw→List V
 |.reckon x s a b=>[.str "reckon",.str x,.str s,kV a,kV b]
 |.copy x a=>[.str "copy",.str x,kV a]
 |.say a=>[.str "say",kV a]
 |.go n=>[.str "go",.int n]
 |.part a n=>[.str "part",kV a,.int n]
 |.fin=>[.str "end"]
abbrev Rw.word:Rw→Str
 |.reckon .. => "reckon" |.copy .. => "copy" |.say _ => "say" |.go _ => "go" |.part .. => "part" |.fin => "end"
abbrev Rw.sets:Rw→V
 |.reckon x _ _ _=>.str x|.copy x _=>.str x|_=>.non
abbrev Rw.rk:Rw→Option (List Key)
 |.reckon _ s a b=>some [.inr s,a,b]|_=>none
def n1:¬(("copy" : Str) = "reckon"):=by decide +kernel
def n2:¬(("say" : Str) = "reckon"):=by decide +kernel
def n3:¬(("go" : Str) = "reckon"):=by decide +kernel
def n4:¬(("part" : Str) = "reckon"):=by decide +kernel
structure Df (K:Qzk)(mg:Str→Option Value)(x:Str)(st:Stmt)(ps:Qjz)(f:Addr)(fd:FuncData):Prop where
 mg:mg x=some (.ref f)
 fn:sR K x x st f fd
 bd:Binds K fd ps []
end My
namespace L2
open PySem PySem.Spec PyProof.Rows
abbrev AQ(z:Str):It:=⟨λi _=>i<z.cps.size,λi H x H'=>H'=H∧∃c,z.cps[i]?=some c∧x=.str ⟨#[c]⟩,λi _=>z.cps.size≤i⟩
def VM {P:Program}{w:World}{K:Qzk}{tg:Expr} (it:Addr) (x:Str) (t:Tok) (ty:String) (lO:ty = "str_ascii_iterator" ∨ ty = "str_iterator"):Turn P w K tg (AQ x) [it] it (λi h=>h.IsStrIter it ty x t i) where
 mem:=by simp
 obj:=λi h st b hb=>by
  let e:b=it:=by simpa using hb
  subst e;let⟨o,e,c,d⟩:=st;exact⟨o,e,λv z=>by rw[d]at z;cases z⟩
 keep:=λi h h' st k=>by let⟨o,e,r⟩:=st;exact⟨o,k it (by simp) o e,r⟩
 item:=by
  intro X hP hw hK hc i pins s σ H E I hf st hg;subst hP hw hK;let hi:i<x.cps.size:=hg;let⟨f0,f1,f2,f3,f4,f5⟩:=hf it (by simp);let fin:∀h',h'.IsStrIter it ty x t (i+1)→Heap.SameBut it s.heap h'→∃u,some (Value.str ⟨#[x.cps[i]]⟩ s.toks)=some u ∧
    wpAny (model X.prog X.w) X.A (letOwnedTupleGo tg (.ref it) u) (λ_ s2=>∃y H',Inv X pins σ H' s2∧RelV y u∧(AQ x).ku i H y H'∧s2.heap.IsStrIter it ty x t (i+1)∧∀b∈[it],H' b=none) E { s with heap:=h',toks:=s.toks+1 }:=λh' fO sb=>by
   let I1:Inv X pins σ H { s with heap:=h',toks:=s.toks+1 }:=I.turned (λb o hb e=>(sb.2 b hb).trans e) f0 f1 f3 f4 f5;let⟨o,e,c,d⟩:=id fO;refine⟨_,rfl,uZ (s:={ s with heap:=h',toks:=s.toks+1 }) e c d (by rcases lO with q|q<;>(rw[q];decide)) ⟨.str ⟨#[x.cps[i]]⟩,H,I1,⟨_,rfl⟩,⟨rfl,x.cps[i],by simp[hi],rfl⟩,fO,λb hb=>(hf b hb).1⟩⟩
  rcases lO with q|q
  ·subst q;exact wpAny_pyNext_ascii_item st (c:=x.cps[i]) (by simp[hi]) fin
  ·subst q;exact wpAny_pyNext_wide_item st (c:=x.cps[i]) (by simp[hi]) fin
 done:=by
  intro X hP hw hK hc i pins s σ H E I hf st hg;subst hP hw hK;let hi:x.cps.size≤i:=hg;let⟨f0,f1,f2,f3,f4,f5⟩:=hf it (by simp);let fin:∀h',Heap.ExtBut it s.heap h'→(none:Option Value)=none∧Inv X pins σ H { s with heap:=h' }:=λh' eb=>⟨rfl,I.turned (t':=s.toks) (λb o hb e=>eb b o hb e) f0 f1 f3 f4 f5⟩;rcases lO with q|q
  ·subst q;exact wpAny_pyNext_ascii_end (I.ok.hd hc) st (by simp[hi]) fin
  ·subst q;exact wpAny_pyNext_wide_end (I.ok.hd hc) st (by simp[hi]) fin
 self:=λ_ _ _ _ _ st h=>by
  rcases lO with q|q
  ·subst q;exact wpAny_pyIter_striter_ascii st h
  ·subst q;exact wpAny_pyIter_striter_wide st h
section
variable {X:Cx}{tg:Expr}
def Pk(tl:TE):TI:=λσ H R=>tl σ H λx H1=>∃z,x=.str z∧R (AQ z) H1
def ZM{l:Expr}{tl:TE}(hl:PE X l tl):PI X tg l (Pk tl):=by
 intro pins s σ H R I h;refine aK (hl pins s σ H _ I h) λv s1 ⟨x,H1,I1,r1,q1⟩=>?_;let⟨z,e,q⟩:=q1;subst e;let⟨t,e⟩:=(show ∃t,v=Value.str z t from r1);subst e;let lO:strIterType z = "str_ascii_iterator" ∨ strIterType z = "str_iterator" := by unfold strIterType;split<;>simp
 refine wpAny_pyIter_strU ?_;refine⟨s1.heap.objs.size,[s1.heap.objs.size],_,_,H1,rfl,I1.kept (t':=s1.toks) λb o e=>cG _ e,VM s1.heap.objs.size z t _ lO,⟨_,gD _ rfl,rfl,rfl⟩,λb hb=>?_,q⟩;let e:b=s1.heap.objs.size:=by simpa using hb
 subst e;exact I1.rK (aW _) (I1.aH.fresh (aW _))
def ZN:mZ X (λx lo hi H Q=>∃z:Str,x=.str z∧z.length≤sizeLine∧Q (.str (Txt.slice z lo hi)) H):=by
 intro pins s σ H x v vl vu lo hi sl Q I rx hs pl pu h;let⟨z,rfl,hz,q⟩:=h;let⟨t,e⟩:=(show ∃t,v=Value.str z t from rx);subst e;let fin:∀t' k,EP X pins σ Q (.str (Txt.slice z lo hi) t') { s with toks:=k }:=λt' k=>⟨.str (Txt.slice z lo hi),H,I.tok k,⟨_,rfl⟩,q⟩;refine⟨"str",_,F.slot_str_getitem.lookup,typeIs_str _ _ _,?_⟩;cases pl with
 |none =>
  cases pu with
  |none=>exact Ak (l:=none) (u:=none) (st:=none) hs rfl (Al ⟨dM (Am z _ _) hz,fin⟩)
  |int j tj=>exact Ak (l:=none) (u:=some (j,tj)) (st:=none) hs rfl (Al ⟨dM (Am z _ _) hz,fin⟩)
 |int i ti =>
  cases pu with
  |none=>exact Ak (l:=some (i,ti)) (u:=none) (st:=none) hs rfl (Al ⟨dM (Am z _ _) hz,fin⟩)
  |int j tj=>exact Ak (l:=some (i,ti)) (u:=some (j,tj)) (st:=none) hs rfl (Al ⟨dM (Am z _ _) hz,fin⟩)
def VN{prog:Program}{w:World}{A:Around}{E:Qzx}{s:Shared}{t b:Addr}{ws:Qxz}{Q:Qzx}(ht:IsTup s.heap t ([]:Qxz).toArray)(hb:IsTup s.heap b ws.toArray)(h:Q (.ref b) s):wpAny (model prog w) A (binaryOp .Add (.ref t) (.ref b)) Q E s:=by
 let⟨⟨c1,d1,da1,wq⟩,ho,hc,n,hd⟩:=id ht;let⟨⟨c2,d2,da2,sN⟩,kC,iF,n2,hd2⟩:=id hb;simp only at hc hd iF hd2;subst hc hd iF hd2;exact z9 ⟨_,ho,rfl⟩ ⟨_,kC,rfl⟩ FU seq_tuple_add FV FW (FX _ _) (tuple_addW0 t b ([]:Qxz).toArray ws.toArray n n2 d1 d2 wq sN (by simp)) ⟨ho,kC,h⟩
def TK{prog:Program}{w:World}{A:Around}{E:Qzx}{s:Shared}{t sl:Addr}{items:Array Value}{vl vu:Value}{lo hi:Option Int}{Q:Qzx}(ht:IsTup s.heap t items)(hs:s.heap.IsSliceOf sl vl vu .none)(pl:IsPart vl lo)(pu:IsPart vu hi)
  (h0:HT.bj items.size 0 lo=0) (h1:HT.bj items.size items.size hi=items.size) (h:Q (.ref t) s):wpAny (model prog w) A (getItem (.ref t) (.ref sl)) Q E s:=by
 let⟨os,qh,gP,mX⟩:=id hs;let Gi:s.TypeIs (.ref sl) "slice" := ⟨os,qh,gP⟩;unfold getItem;try with_reducible refine kg ?_
 first|refine aA (aO ?_)|skip
 refine aA (wpAny_sequenceKey ht.typeIs (by decide) ?_);refine aA (Aa (name:=Str.ofString "__getitem__") ht.typeIs sk (pY sk ht.typeIs entry_tuple_getitem ?_ (args_tuple_getitem _ _)));show wpAny _ _ (Builtin.Tuple.tupleItemsOf (.ref t) >>= _) _ _ s;refine aA (tupleItemsOf_ ht ?_);refine aA (wpAny_typeOf Gi ?_);rw[if_pos (by decide)];refine aA (HT.HQ hs pl pu ?_);show wpAny _ _ (if (((HT.bj items.size 0 lo:Nat):Int)==0&&(1:Int)==1&&(HT.bj items.size items.size hi-HT.bj items.size 0 lo)==items.size)=true then _ else _) _ _ s;rw[if_pos (by rw[h0,h1];simp)];refine aA ?_;unfold Builtin.Tuple.tupleIsExact;refine aA (wpAny_typeOf ht.typeIs ?_);refine aO ?_;rw[if_pos (by decide)]
 first
  |exact aA (wpAny_rule (aO ⟨_,rfl,aO h⟩))
  |exact aA (wpAny_rule (aA (aO (aO ⟨_,rfl,aO h⟩))))
  |exact aA (aA (wpAny_rule (aO (aO ⟨_,rfl,aO h⟩))))
end
section
variable {X:Cx}{pins:Qxq}{σ:St}{H:Hp}{s:Shared}{A:Around}{E:Qzx}
def uG(H:Hp)(ys:List V)(ps:List (Key×V)):Prop:=Paired (λ(v:V) (kv:Key×V)=>∃a,v=.ref a∧H a=some (.tup [kV kv.1,kv.2])) ys ps
def uG.at{ys:List V}{ps:List (Key×V)}(h:uG H ys ps):∀{i:Nat},i<ys.length→∃a kv,ys[i]?=some (.ref a)∧ps[i]?=some kv∧H a=some (.tup [kV kv.1,kv.2]):=by
 induction h with
 |nil=>intro i hi;exact absurd hi (kl i)
 |@cons v kv ys ps hv t ih =>
  intro i hi;cases i with
  |zero=>let⟨a,rfl,ha⟩:=hv;exact⟨a,kv,rfl,rfl,ha⟩
  |succ i=>exact ih (by simpa using hi)
def uG.put{ys:List V}{ps:List (Key×V)}{d:Addr}{aj adL:List (Key×V)}(h:uG H ys ps)(hd:H d=some (.dK aj)):uG (upd H d (.dK adL)) ys ps:=by
 induction h with
 |nil=>exact .nil
 |@cons v kv ys ps hv t ih =>
  let⟨a,rfl,ha⟩:=hv;refine .cons ⟨a,rfl,?_⟩ ih;rw[aI (λz=>by rw[z,hd]at ha;cases ha)];exact ha
end
end L2
set_option maxHeartbeats 4000000
namespace J
open PySem L2
inductive D where
 |non|bl (b:Bool)|int (i:Int)|str (x:Str)|ty (n:String)
 |tup (ds:List D)|lst (ds:List D)|dk (ks:List (Key×D))|dt (ks:List (List Key×D))
noncomputable abbrev Qzz:=List D
mutual
abbrev D.cB:D→Bool
 |.tup ds=>D.cO ds
 |.lst _=>false
 |.dk _=>false
 |.dt _=>false
 |.non=>true
 |.bl _=>true
 |.int _=>true
 |.str _=>true
 |.ty _=>true
abbrev D.cO:Qzz→Bool
 |[]=>true
 |d::ds=>d.cB&&D.cO ds
end
def AU(K:Qzk)(a:Addr)(xs:List V):Prop:=∃(o:Obj) (its:Array Value) (n:Nat),K.lookup a=some o∧o.cls=.type "list" ∧ o.dict=none∧o.data=.seq its n∧its.size≤sizeLine∧Vals xs its.toList
mutual
inductive Rp (K:Qzk)(N:Qzj)(H:Hp):V→D→Prop
 |non:Rp K N H .non .non
 |bl (b:Bool):Rp K N H (.bl b) (.bl b)
 |int (i:Int):Rp K N H (.int i) (.int i)
 |str (x:Str):Rp K N H (.str x) (.str x)
 |ty (n:String):Rp K N H (.ty n) (.ty n)
 |tup {a:Addr}{xs:List V}{ds:Qzz}:bC K H a xs→aB K N H xs ds→Rp K N H (.ref a) (.tup ds)
 |lst {a:Addr}{xs:List V}{ds:Qzz}:Rd H a (.lst xs)→N a→aB K N H xs ds→Rp K N H (.ref a) (.lst ds)
 |lstK {a:Addr}{xs:List V}{ds:Qzz}:AU K a xs→aB K N H xs ds→Rp K N H (.ref a) (.lst ds)
 |dk {a:Addr}{aj:List (Key×V)}{ks:List (Key×D)}:Rd H a (.dK aj)→N a→aj.map (·.1)=ks.map (·.1)→aB K N H (aj.map (·.2)) (ks.map (·.2))→Rp K N H (.ref a) (.dk ks)
 |dt {a:Addr}{aj:List (List Key×V)}{ks:List (List Key×D)}:Rd H a (.dT aj)→N a→aj.map (·.1)=ks.map (·.1)→aB K N H (aj.map (·.2)) (ks.map (·.2))→Rp K N H (.ref a) (.dt ks)
inductive aB (K:Qzk)(N:Qzj)(H:Hp):List V→Qzz→Prop
 |nil:aB K N H [] []
 |cons {v:V}{d:D}{vs:List V}{ds:Qzz}:Rp K N H v d→aB K N H vs ds→aB K N H (v::vs) (d::ds)
end
abbrev ia:HO→Prop
 |.tup _=>True
 |.aZ _ (.tup _)=>True
 |_=>False
def Keeps(N:Qzj)(H H':Hp):Prop:=∀a o,H a=some o→(N a∨ia o)→H' a=some o
section
variable {K:Qzk}{N N':Qzj}{H H':Hp}
def Keeps.same(s:aG H H'):Keeps N H H':=λa o e _=>s a o e
def Keeps.sq{a:Addr}{xs:List V}(k:Keeps N H H')(h:bC K H a xs):bC K H' a xs:=by
 rcases h with h|h
 ·exact .inl (k _ _ h (.inr trivial))
 ·exact .inr h
def Keeps.rd{a:Addr}{u:HO}(k:Keeps N H H')(n:N a)(h:Rd H a u):Rd H' a u:=by
 rcases h with h|⟨o,h⟩
 ·exact .inl (k _ _ h (.inl n))
 ·exact .inr ⟨o,k _ _ h (.inl n)⟩
def Rp.keep(k:Keeps N H H'){v:V}{d:D}(h:Rp K N H v d):Rp K N H' v d:=Rp.rec (motive_1:=λv d _=>Rp K N H' v d) (motive_2:=λvs ds _=>aB K N H' vs ds) .non .bl .int .str .ty (λh _ r=>.tup (k.sq h) r) (λh n _ r=>.lst (k.rd n h) n r) (λh _ r=>.lstK h r) (λh n e _ r=>.dk (k.rd n h) n e r) (λh n e _ r=>.dt (k.rd n h) n e r) .nil (λ_ _ h r=>.cons h r) h
def aB.keep(k:Keeps N H H'){vs:List V}{ds:Qzz}(h:aB K N H vs ds):aB K N H' vs ds:=aB.rec (motive_1:=λv d _=>Rp K N H' v d) (motive_2:=λvs ds _=>aB K N H' vs ds) .non .bl .int .str .ty (λh _ r=>.tup (k.sq h) r) (λh n _ r=>.lst (k.rd n h) n r) (λh _ r=>.lstK h r) (λh n e _ r=>.dk (k.rd n h) n e r) (λh n e _ r=>.dt (k.rd n h) n e r) .nil (λ_ _ h r=>.cons h r) h
theorem Rd.some{a:Addr}{u:HO}(h:Rd H a u):∃o,H a=some o:=by
 rcases h with h|⟨o,h⟩
 ·exact⟨_,h⟩
 ·exact⟨_,h⟩
def Rp.wk(w:∀a,N a→(∃o,H a=some o)→N' a){v:V}{d:D}(h:Rp K N H v d):Rp K N' H v d:=Rp.rec (motive_1:=λv d _=>Rp K N' H v d) (motive_2:=λvs ds _=>aB K N' H vs ds) .non .bl .int .str .ty (λh _ r=>.tup h r) (λh n _ r=>.lst h (w _ n (Rd.some h)) r) (λh _ r=>.lstK h r) (λh n e _ r=>.dk h (w _ n (Rd.some h)) e r) (λh n e _ r=>.dt h (w _ n (Rd.some h)) e r) .nil (λ_ _ h r=>.cons h r) h
def aB.wk(w:∀a,N a→(∃o,H a=some o)→N' a){vs:List V}{ds:Qzz}(h:aB K N H vs ds):aB K N' H vs ds:=aB.rec (motive_1:=λv d _=>Rp K N' H v d) (motive_2:=λvs ds _=>aB K N' H vs ds) .non .bl .int .str .ty (λh _ r=>.tup h r) (λh n _ r=>.lst h (w _ n (Rd.some h)) r) (λh _ r=>.lstK h r) (λh n e _ r=>.dk h (w _ n (Rd.some h)) e r) (λh n e _ r=>.dt h (w _ n (Rd.some h)) e r) .nil (λ_ _ h r=>.cons h r) h
def Rp.im{v:V}{d:D}(e:d.cB=true)(h:Rp K N H v d):Rp K N' H v d:=Rp.rec (motive_1:=λv d _=>d.cB=true→Rp K N' H v d) (motive_2:=λvs ds _=>D.cO ds=true→aB K N' H vs ds) (λ_=>.non) (λb _=>.bl b) (λi _=>.int i) (λx _=>.str x) (λn _=>.ty n) (λh _ r e=>.tup h (r e)) (λ_ _ _ _ e=>by cases e) (λ_ _ _ e=>by cases e) (λ_ _ _ _ _ e=>by cases e) (λ_ _ _ _ _ e=>by cases e) (λ_=>.nil) (λ_ _ h r e=>.cons (h (Bool.and_eq_true_iff.mp e).1) (r (Bool.and_eq_true_iff.mp e).2)) h e
def aB.im{vs:List V}{ds:Qzz}(e:D.cO ds=true)(h:aB K N H vs ds):aB K N' H vs ds:=aB.rec (motive_1:=λv d _=>d.cB=true→Rp K N' H v d) (motive_2:=λvs ds _=>D.cO ds=true→aB K N' H vs ds) (λ_=>.non) (λb _=>.bl b) (λi _=>.int i) (λx _=>.str x) (λn _=>.ty n) (λh _ r e=>.tup h (r e)) (λ_ _ _ _ e=>by cases e) (λ_ _ _ e=>by cases e) (λ_ _ _ _ _ e=>by cases e) (λ_ _ _ _ _ e=>by cases e) (λ_=>.nil) (λ_ _ h r e=>.cons (h (Bool.and_eq_true_iff.mp e).1) (r (Bool.and_eq_true_iff.mp e).2)) h e
theorem aB.paired:∀{vs:List V}{ds:Qzz},aB K N H vs ds→Paired (λd v=>Rp K N H v d) ds vs
 |_,_,.nil=>.nil
 |_,_,.cons h r=>.cons h (aB.paired r)
theorem aB.of:∀{ds:Qzz}{vs:List V},Paired (λd v=>Rp K N H v d) ds vs→aB K N H vs ds
 |_,_,.nil=>.nil
 |_,_,.cons h r=>.cons h (aB.of r)
def aB.len{vs:List V}{ds:Qzz}(r:aB K N H vs ds):vs.length=ds.length:=(cM r.paired).symm
theorem aB.get:∀{vs:List V}{ds:Qzz}{i:Nat}{d:D},aB K N H vs ds→ds[i]?=some d→∃v,vs[i]?=some v∧Rp K N H v d
 |_,_,_,_,.nil,e=>by simp at e
 |_,_,0,_,.cons h _,e=>by simp at e;subst e;exact⟨_,rfl,h⟩
 |_,_,i+1,d,.cons _ r,e=>by
  let⟨v,h1,h2⟩:=aB.get (i:=i) (d:=d) r (by simpa using e);exact⟨v,by simpa using h1,h2⟩
theorem aB.app:∀{vs ws:List V}{ds es:Qzz},aB K N H vs ds→aB K N H ws es→aB K N H (vs++ws) (ds++es)
 |_,_,_,_,.nil,s=>s
 |_,_,_,_,.cons h r,s=>.cons h (aB.app r s)
theorem aB.set{v:V}{d:D}(q:Rp K N H v d):∀{vs:List V}{ds:Qzz} (i:Nat),aB K N H vs ds→aB K N H (vs.set i v) (ds.set i d)
 |_,_,_,.nil=>.nil
 |_,_,0,.cons _ t=>.cons q t
 |_,_,i+1,.cons h t=>.cons h (aB.set q i t)
theorem aB.take:∀{vs:List V}{ds:Qzz} (n:Nat),aB K N H vs ds→aB K N H (vs.take n) (ds.take n)
 |_,_,0,_=>.nil
 |_,_,_+1,.nil=>.nil
 |_,_,n+1,.cons r t=>.cons r (aB.take n t)
theorem aB.drop:∀{vs:List V}{ds:Qzz} (n:Nat),aB K N H vs ds→aB K N H (vs.drop n) (ds.drop n)
 |_,_,0,r=>r
 |_,_,_+1,.nil=>.nil
 |_,_,n+1,.cons _ t=>aB.drop n t
theorem aB.rev:∀{vs:List V}{ds:Qzz},aB K N H vs ds→aB K N H vs.reverse ds.reverse
 |_,_,.nil=>.nil
 |_,_,.cons h t=>by
  rw[vJ,vJ];exact(aB.rev t).app (.cons h .nil)
def aB.dl{vs:List V}{ds:Qzz}(h:aB K N H vs ds):aB K N H vs.dropLast ds.dropLast:=by
 rw[List.dropLast_eq_take,List.dropLast_eq_take,h.len];exact h.take _
theorem aB.rep:∀{vs:List V}{ds:Qzz} (n:Nat),aB K N H vs ds→aB K N H (List.replicate n vs).flatten (List.replicate n ds).flatten
 |_,_,0,_=>.nil
 |_,_,n+1,h=>by
  rw[Ab,Ab,Ac,Ac];exact h.app (aB.rep n h)
theorem aB.bp{vs:List V}{ds:Qzz}{i:Int}{d:D}(r:aB K N H vs ds)(e:L2.bp ds i=some d):∃v,L2.bp vs i=some v∧Rp K N H v d:=by
 unfold L2.bp at e ⊢;rw[r.len];cases q:dh ds.length i with
 |none=>rw[q]at e;cases e
 |some j =>
  rw[q]at e;exact r.get e
end
inductive M where|al|fr|un|bo|bi|rb|nb|ut
 deriving DecidableEq
noncomputable abbrev Ev:=List (Option (M×D))
noncomputable abbrev Qzq:=Option (M×D)
noncomputable abbrev Qqk:=Qzz→Qzq
noncomputable abbrev Qqj:=Ev→Qzq
noncomputable abbrev Qqx:=Ev→Option Bool
noncomputable abbrev Qqz:=Ev→Option (List (M×D))
abbrev Cell(K:Qzk)(N:Qzj)(H:Hp)(p:Addr):D→Prop
 |.lst ds=>∃xs,H p=some (.lst xs)∧aB K N H xs ds
 |.dk ks=>∃aj,H p=some (.dK aj)∧aj.map (·.1)=ks.map (·.1)∧aB K N H (aj.map (·.2)) (ks.map (·.2))
 |.dt ks=>∃aj,H p=some (.dT aj)∧aj.map (·.1)=ks.map (·.1)∧aB K N H (aj.map (·.2)) (ks.map (·.2))
 |_=>False
abbrev NM(H₀:Hp)(O:Qzj):M→Qzj
 |.al,a=>¬O a
 |.rb,a=>H₀ a=none
 |_,a=>¬O a∧H₀ a=none
def jt(K:Qzk)(H₀:Hp)(O:Qzj)(H:Hp)(d:D)(v:V):Prop :=
 ∃(p:Addr) (qs:List Addr) (aS:List (Qzz)),v=.ref p∧d=.lst (aS.map D.lst)∧O p∧H₀ p=none∧H p=some (.lst (qs.map V.ref))∧qs.Nodup∧(∀q∈qs,O q∧H₀ q=none∧q≠p) ∧
  Paired (λq ds=>∃xs,H q=some (.lst xs)∧aB K (λa=>¬O a∧H₀ a=none) H xs ds) qs aS
def UT(K:Qzk)(F:Qzj)(H:Hp)(d:D)(v:V):Prop:=(d.cB=true∧Rp K (λ_=>False) H v d)∨∃q,v=.ref q∧F q∧Cell K (λ_=>False) H q d
def fj(K:Qzk)(F:Qzj)(H:Hp)(d:D)(v:V):Prop:=∃a xs ds,v=.ref a∧d=.tup ds∧bC K H a xs∧Paired (UT K F H) ds xs
def Val(K:Qzk)(H₀:Hp)(O:Qzj)(Hb H:Hp):M→D→V→Prop
 |.al,d,v=>Rp K (λa=>¬O a) H v d
 |.fr,d,v=>Rp K (λa=>¬O a∧H₀ a=none) H v d
 |.rb,d,v=>Rp K (λa=>H₀ a=none) H v d
 |.un,d,v=>∃p,v=.ref p∧Hb p=none∧H₀ p=none∧¬O p∧Cell K (λa=>(¬O a∧H₀ a=none)∧a≠p) H p d
 |.bo,d,v=>∃p,v=.ref p∧O p∧H₀ p=none∧Cell K (λa=>¬O a∧H₀ a=none) H p d
 |.bi,d,v=>∃p,v=.ref p∧O p∧Cell K (λa=>¬O a∧H₀ a=none) H p d
 |.nb,d,v=>jt K H₀ O H d v
 |.ut,d,v=>fj K (λq=>Hb q=none∧H₀ q=none∧¬O q) H d v
abbrev bf:M→M
 |.al=>.al
 |.rb=>.rb
 |.nb=>.rb
 |_=>.fr
noncomputable abbrev HE:Hp:=λ_=>none
section
variable {K:Qzk}{N N':Qzj}{H H' H₀ Hb QX:Hp}{O:Qzj}{m:M}{d:D}{v:V}{p:Addr}
theorem Cell.keep(k:Keeps N H H')(e:H' p=H p)(h:Cell K N H p d):Cell K N H' p d:=by
 cases d<;>simp only[Cell]at h ⊢
 ·let⟨xs,q,r⟩:=h;exact⟨xs,e.trans q,r.keep k⟩
 ·let⟨xs,q,z,r⟩:=h;exact⟨xs,e.trans q,z,r.keep k⟩
 ·let⟨xs,q,z,r⟩:=h;exact⟨xs,e.trans q,z,r.keep k⟩
theorem Cell.some(h:Cell K N H p d):∃o,H p=some o∧¬ia o:=by
 cases d<;>simp only[Cell]at h
 ·let⟨xs,q,r⟩:=h;exact⟨_,q,λz=>z⟩
 ·let⟨xs,q,z,r⟩:=h;exact⟨_,q,λz=>z⟩
 ·let⟨xs,q,z,r⟩:=h;exact⟨_,q,λz=>z⟩
theorem Cell.wk(w:∀a,N a→(∃o,H a=Option.some o)→N' a)(h:Cell K N H p d):Cell K N' H p d:=by
 cases d<;>simp only[Cell]at h ⊢
 ·let⟨xs,q,r⟩:=h;exact⟨xs,q,r.wk w⟩
 ·let⟨xs,q,z,r⟩:=h;exact⟨xs,q,z,r.wk w⟩
 ·let⟨xs,q,z,r⟩:=h;exact⟨xs,q,z,r.wk w⟩
def Cell.rp(n:N p)(h:Cell K N H p d):Rp K N H (.ref p) d:=by
 cases d<;>simp only[Cell]at h
 ·let⟨xs,q,r⟩:=h;exact .lst (.inl q) n r
 ·let⟨xs,q,z,r⟩:=h;exact .dk (.inl q) n z r
 ·let⟨xs,q,z,r⟩:=h;exact .dt (.inl q) n z r
theorem lh{F G:Addr→Qzz→Prop}:∀{qs:List Addr}{aS:List (Qzz)},(∀q ds,q∈qs→F q ds→G q ds)→Paired F qs aS→Paired G qs aS
 |_,_,_,.nil=>.nil
 |_,_,h,.cons a t=>.cons (h _ _ cg a) (lh (λq ds m=>h q ds (c9 _ m)) t)
theorem jt.keep(s:aG H H')(h:jt K H₀ O H d v):jt K H₀ O H' d v:=by
 let⟨p,qs,aS,e1,e2,h1,h2,h3,h4,h5,h6⟩:=h;exact⟨p,qs,aS,e1,e2,h1,h2,s _ _ h3,h4,h5,lh (λq ds _ ⟨xs,a,b⟩=>⟨xs,s _ _ a,b.keep (.same s)⟩) h6⟩
theorem jt.iH{F:Qzj}(w:∀a,H₀ a=none→F a):∀{qs:List Addr}{aS:List (Qzz)},(∀q∈qs,O q∧H₀ q=none∧q≠p)→Paired (λq ds=>∃xs,H q=some (.lst xs)∧aB K (λa=>¬O a∧H₀ a=none) H xs ds) qs aS→aB K F H (qs.map V.ref) (aS.map D.lst)
 |_,_,_,.nil=>.nil
 |_,_,h,.cons ⟨xs,a,b⟩ t=>.cons (.lst (.inl a) (w _ (h _ cg).2.1) (b.wk λx z _=>w x z.2)) (jt.iH w (λq m=>h q (c9 _ m)) t)
def jt.rp{F:Qzj}(w:∀a,H₀ a=none→F a)(h:jt K H₀ O H d v):Rp K F H v d:=by
 let⟨p,qs,aS,rfl,rfl,h1,h2,h3,h4,h5,h6⟩:=h;exact .lst (.inl h3) (w _ h2) (jt.iH w h5 h6)
theorem fj.keep{F:Qzj}(s:aG H H')(h:fj K F H d v):fj K F H' d v:=by
 let⟨a,xs,ds,e1,e2,h1,h2⟩:=h;refine⟨a,xs,ds,e1,e2,(Keeps.same (N:=λ_=>True) s).sq h1,Paired.mE h2 λd v z=>?_⟩;rcases z with⟨z1,z2⟩|⟨q,z1,z2,c⟩
 ·exact .inl ⟨z1,z2.keep (.same s)⟩
 ·let⟨o,e,_⟩:=c.some;exact .inr ⟨q,z1,z2,c.keep (.same s) ((s _ _ e).trans e.symm)⟩
def fj.wk{F F':Qzj}(w:∀q,F q→F' q)(h:fj K F H d v):fj K F' H d v:=by
 let⟨a,xs,ds,e1,e2,h1,h2⟩:=h;exact⟨a,xs,ds,e1,e2,h1,Paired.mE h2 λd v z=>z.imp id λ⟨q,z1,z2,c⟩=>⟨q,z1,w q z2,c⟩⟩
def fj.iH{F:Qzj}(w:∀q,F q→N q){ds:Qzz}{xs:List V}(h:Paired (UT K F H) ds xs):aB K N H xs ds:=aB.of (Paired.mE h λd v z=>by
 rcases z with⟨z1,z2⟩|⟨q,rfl,z2,c⟩
 ·exact z2.im z1
 ·exact(c.wk λ_ z _=>z.elim).rp (w q z2))
def fj.rp{F:Qzj}(w:∀q,F q→N q)(h:fj K F H d v):Rp K N H v d:=by
 let⟨a,xs,ds,rfl,rfl,h1,h2⟩:=h;exact .tup h1 (fj.iH w h2)
theorem Val.keep(s:aG H H')(h:Val K H₀ O Hb H m d v):Val K H₀ O Hb H' m d v:=by
 cases m<;>simp only[Val]at h ⊢
 ·exact h.keep (.same s)
 ·exact h.keep (.same s)
 ·let⟨p,e,h1,h2,h3,c⟩:=h;let⟨o,q,_⟩:=c.some;exact⟨p,e,h1,h2,h3,c.keep (.same s) ((s _ _ q).trans q.symm)⟩
 ·let⟨p,e,h1,h2,c⟩:=h;let⟨o,q,_⟩:=c.some;exact⟨p,e,h1,h2,c.keep (.same s) ((s _ _ q).trans q.symm)⟩
 ·let⟨p,e,h1,c⟩:=h;let⟨o,q,_⟩:=c.some;exact⟨p,e,h1,c.keep (.same s) ((s _ _ q).trans q.symm)⟩
 ·exact h.keep (.same s)
 ·exact h.keep s
 ·exact h.keep s
def Val.hb(w:∀a,Hb a=none→QX a=none)(h:Val K H₀ O Hb H m d v):Val K H₀ O QX H m d v:=by
 cases m<;>simp only[Val]at h ⊢
 ·exact h
 ·exact h
 ·let⟨p,e,h1,r⟩:=h;exact⟨p,e,w _ h1,r⟩
 ·exact h
 ·exact h
 ·exact h
 ·exact h
 ·exact h.wk λq z=>⟨w _ z.1,z.2⟩
def Val.h0(h:Val K H₀ O Hb H m d v):Val K H₀ O HE H m d v:=h.hb λ_ _=>rfl
def Val.weak(h:Val K H₀ O Hb H m d v):Rp K (λ_=>True) H v d:=by
 cases m<;>simp only[Val]at h
 ·exact h.wk λ_ _ _=>trivial
 ·exact h.wk λ_ _ _=>trivial
 ·let⟨p,rfl,_,_,_,c⟩:=h;exact(c.wk λ_ _ _=>trivial).rp trivial
 ·let⟨p,rfl,_,_,c⟩:=h;exact(c.wk λ_ _ _=>trivial).rp trivial
 ·let⟨p,rfl,_,c⟩:=h;exact(c.wk λ_ _ _=>trivial).rp trivial
 ·exact h.wk λ_ _ _=>trivial
 ·exact h.rp λ_ _=>trivial
 ·exact h.rp λ_ _=>trivial
def Rp.int_inv{i:Int}(h:Rp K N H v (.int i)):v=.int i:=by cases h;rfl
def Rp.MS{b:Bool}(h:Rp K N H v (.bl b)):v=.bl b:=by cases h;rfl
def Rp.str_inv{x:Str}(h:Rp K N H v (.str x)):v=.str x:=by cases h;rfl
def Rp.Lf(h:Rp K N H v .non):v=.non:=by cases h;rfl
def Rp.ZO{n:String}(h:Rp K N H v (.ty n)):v=.ty n:=by cases h;rfl
theorem Val.int{i:Int}(h:Val K H₀ O Hb H m (.int i) v):v=.int i:=h.weak.int_inv
theorem Val.bl{b:Bool}(h:Val K H₀ O Hb H m (.bl b) v):v=.bl b:=h.weak.MS
theorem Val.str{x:Str}(h:Val K H₀ O Hb H m (.str x) v):v=.str x:=h.weak.str_inv
theorem Val.non(h:Val K H₀ O Hb H m .non v):v=.non:=h.weak.Lf
theorem Val.ty{x:String}(h:Val K H₀ O Hb H m (.ty x) v):v=.ty x:=h.weak.ZO
theorem Val.lst{ds:Qzz}(h:Val K H₀ O Hb H m (.lst ds) v):∃a xs,v=.ref a∧b0 K H a xs∧aB K (NM H₀ O (bf m)) H xs ds:=by
 cases m<;>simp only[Val,Cell]at h
 ·cases h with
  |lst r n q=>exact⟨_,_,rfl,.inl r,q⟩
  |lstK r q=>exact⟨_,_,rfl,.inr r,q⟩
 ·cases h with
  |lst r n q=>exact⟨_,_,rfl,.inl r,q⟩
  |lstK r q=>exact⟨_,_,rfl,.inr r,q⟩
 ·let⟨p,rfl,_,_,_,xs,q,r⟩:=h;exact⟨_,_,rfl,.inl (.inl q),r.wk λa h _=>h.1⟩
 ·let⟨p,rfl,_,_,xs,q,r⟩:=h;exact⟨_,_,rfl,.inl (.inl q),r⟩
 ·let⟨p,rfl,_,xs,q,r⟩:=h;exact⟨_,_,rfl,.inl (.inl q),r⟩
 ·cases h with
  |lst r n q=>exact⟨_,_,rfl,.inl r,q⟩
  |lstK r q=>exact⟨_,_,rfl,.inr r,q⟩
 ·let⟨p,qs,aS,rfl,e2,h1,h2,h3,h4,h5,h6⟩:=h;cases e2;exact⟨p,_,rfl,.inl (.inl h3),jt.iH (λ_ z=>z) h5 h6⟩
 ·let⟨_,_,_,_,e2,_⟩:=h;cases e2
theorem Val.tup{ds:Qzz}(h:Val K H₀ O Hb H m (.tup ds) v):∃a xs,v=.ref a∧bC K H a xs∧aB K (NM H₀ O (bf m)) H xs ds:=by
 cases m<;>simp only[Val,Cell]at h
 ·cases h with|tup r q=>exact⟨_,_,rfl,r,q⟩
 ·cases h with|tup r q=>exact⟨_,_,rfl,r,q⟩
 ·let⟨p,rfl,_,_,_,z⟩:=h;exact z.elim
 ·let⟨p,rfl,_,_,z⟩:=h;exact z.elim
 ·let⟨p,rfl,_,z⟩:=h;exact z.elim
 ·cases h with|tup r q=>exact⟨_,_,rfl,r,q⟩
 ·let⟨p,qs,aS,rfl,e2,_⟩:=h;cases e2
 ·let⟨a,xs,fA,rfl,e2,h1,h2⟩:=h;cases e2;exact⟨a,xs,rfl,h1,fj.iH (λq z=>⟨z.2.2,z.2.1⟩) h2⟩
def Val.el{a:V}{e:D}(h:Rp K (NM H₀ O (bf m)) H a e):Val K H₀ O Hb H (bf m) e a:=by
 cases m<;>exact h
def cY:M→D→Bool
 |.fr,_=>true
 |.un,_=>true
 |.ut,_=>true
 |_,d=>d.cB
def ib:M→D→Bool
 |.fr,_=>true
 |.un,_=>true
 |.ut,_=>true
 |.al,_=>true
 |_,d=>d.cB
def wu:M→D→Bool
 |.fr,_=>true
 |.un,_=>true
 |.ut,_=>true
 |.bo,_=>true
 |.rb,_=>true
 |_,d=>d.cB
theorem Val.cY(h:Val K H₀ O Hb H m d v)(e:J.cY m d=true):Rp K (λa=>¬O a∧H₀ a=none) H v d:=by
 cases m<;>simp only[J.cY]at e
 ·exact h.weak.im e
 ·exact h
 ·let⟨p,rfl,_,h1,h2,c⟩:=h;exact(c.wk λa h _=>h.1).rp ⟨h2,h1⟩
 ·exact h.weak.im e
 ·exact h.weak.im e
 ·exact h.weak.im e
 ·exact Rp.im e h.weak
 ·exact fj.rp (λq z=>⟨z.2.2,z.2.1⟩) h
theorem Val.ib(h:Val K H₀ O Hb H m d v)(e:J.ib m d=true):Rp K (λa=>¬O a) H v d:=by
 cases m<;>simp only[J.ib]at e
 ·exact h
 ·exact Rp.wk (λa h _=>h.1) (show Rp K (λa=>¬O a∧H₀ a=none) H v d from h)
 ·exact Rp.wk (λa h _=>h.1) (h.cY rfl)
 ·exact h.weak.im e
 ·exact h.weak.im e
 ·exact h.weak.im e
 ·exact Rp.im e h.weak
 ·exact fj.rp (λq z=>z.2.2) h
theorem Val.wu(h:Val K H₀ O Hb H m d v)(e:J.wu m d=true):Rp K (λa=>H₀ a=none) H v d:=by
 cases m<;>simp only[J.wu]at e
 ·exact h.weak.im e
 ·exact Rp.wk (λa h _=>h.2) (show Rp K (λa=>¬O a∧H₀ a=none) H v d from h)
 ·exact Rp.wk (λa h _=>h.2) (h.cY rfl)
 ·let⟨p,rfl,_,h1,c⟩:=h;exact(c.wk λa h _=>h.2).rp h1
 ·exact h.weak.im e
 ·exact h
 ·exact Rp.im e h.weak
 ·exact fj.rp (λq z=>z.2.1) h
end
abbrev jH:M→Bool
 |.un=>false
 |.rb=>false
 |.ut=>false
 |_=>true
structure fm (K:Qzk)(H₀:Hp)(O:Qzj)(H:Hp)(σ:St)(env:Ev):Prop where
 sl:Paired (λ(e:Qzq) (x:Option V)=>∀m d,e=some (m,d)→jH m=true∧∃v,x=some v∧Val K H₀ O HE H m d v) env σ
 od:∀a,O a→∃o,H a=some o
 hd:∀a o,H₀ a=some o→∃o',H a=some o'
 on:∀a o,O a→H a=some o→¬ia o
def JT(K:Qzk)(te:TE)(f:Qqj):Prop :=
 ∀H₀ O H σ env Q m d,fm K H₀ O H σ env→f env=some (m,d)→(∀v H',aG H H'→Val K H₀ O H H' m d v→Q v H')→te σ H Q
def fS(K:Qzk)(tt:TT)(f:Qqx):Prop :=
 ∀H₀ O H σ env Q b,fm K H₀ O H σ env→f env=some b→(∀H',aG H H'→Q b H')→tt σ H Q
def gK(K:Qzk)(H₀:Hp)(O:Qzj)(Hb H:Hp)(ay:List (M×D))(vs:List V):Prop:=Paired (λmd v=>Val K H₀ O Hb H md.1 md.2 v) ay vs
def iI(K:Qzk)(ta:TA)(f:Qqz):Prop :=
 ∀H₀ O H σ env Q ay,fm K H₀ O H σ env→f env=some ay→(∀vs H',aG H H'→gK K H₀ O H H' ay vs→Q vs H')→ta σ H Q
section
variable {K:Qzk}{H H' H₀:Hp}{O:Qzj}{σ:St}{env:Ev}
theorem nJ{α β:Type}{F G:α→β→Prop}(h:∀a b,F a b→G a b):∀{l:List α}{r:List β},Paired F l r→Paired G l r
 |_,_,.nil=>.nil
 |_,_,.cons q t=>.cons (h _ _ q) (nJ h t)
theorem fm.keep(R:fm K H₀ O H σ env)(s:aG H H'):fm K H₀ O H' σ env :=
 ⟨nJ (λe x h m d q=>⟨(h m d q).1,let ⟨v,e,z⟩:=(h m d q).2;⟨v,e,z.keep s⟩⟩) R.sl,λa h=>let ⟨o,q⟩:=R.od a h;⟨o,s _ _ q⟩,λa o h=>let ⟨o,q⟩:=R.hd a o h;⟨o,s _ _ q⟩,λa o h e=>by
  let⟨o',q⟩:=R.od a h;let z:=s _ _ q;rw[e]at z;cases z;exact R.on a _ h q⟩
theorem E3{α β:Type}{F:α→β→Prop}:∀{l:List α}{r:List β}{i:Nat}{a:α},Paired F l r→l[i]?=some a→∃b,r[i]?=some b∧F a b
 |_,_,_,_,.nil,e=>by simp at e
 |_,_,0,_,.cons h _,e=>by simp at e;subst e;exact⟨_,rfl,h⟩
 |_,_,i+1,a,.cons _ r,e=>by
  let⟨v,h1,h2⟩:=E3 (i:=i) (a:=a) r (by simpa using e);exact⟨v,by simpa using h1,h2⟩
def fm.at{i:Nat}{m:M}{d:D}(R:fm K H₀ O H σ env)(e:env[i]?=some (some (m,d))):∃v,σ[i]?=some (some v)∧jH m=true∧Val K H₀ O HE H m d v:=by
 let⟨x,hx,h⟩:=E3 R.sl e;let⟨h0,v,rfl,hz⟩:=h m d rfl;exact⟨v,hx,h0,hz⟩
def Val.Oi{m:M}{d:D}{v:V}{Hb:Hp}(n:jH m=true)(h:Val K H₀ O HE H m d v):Val K H₀ O Hb H m d v:=by
 cases m<;>first|exact h|cases n
abbrev jV(i:Nat):Qqj:=λe=>(e[i]?).bind id
def ZP{i:Nat}:JT K (iw i) (jV i):=by
 intro H₀ O H σ env Q m d R h q;unfold jV at h;cases e:env[i]? with
 |none=>rw[e]at h;cases h
 |some x =>
  rw[e]at h;obtain rfl:x=some (m,d):=h;let⟨v,hv,n,hm⟩:=R.at e;exact⟨v,hv,q v H (aG.refl H) (hm.Oi n)⟩
abbrev jC(d:D):Qqj:=λ_=>some (.fr,d)
abbrev cD:V→Option D
 |.non=>some .non
 |.bl b=>some (.bl b)
 |.int i=>some (.int i)
 |.str x=>some (.str x)
 |.ty n=>some (.ty n)
 |_=>none
def rP{v:V}{d:D}(e:cD v=some d):JT K (tC v) (jC d):=by
 intro H₀ O H σ env Q m d' R h q;cases h;refine q v H (aG.refl H) ?_;cases v<;>simp only[cD]at e<;>cases e<;>constructor
def JR(K:Qzk)(r:R2)(g:M×D→M×D→Qzq):Prop :=
 ∀H₀ O H x y a b Q m d,(∀a,O a→∃o,H a=some o)→(∀a o,H₀ a=some o→∃o',H a=some o')→Val K H₀ O HE H (Prod.fst a) a.2 x→Val K H₀ O HE H (Prod.fst b) b.2 y→g a b=some (m,d)→(∀v H',aG H H'→Val K H₀ O H H' m d v→Q v H')→r x y H Q
abbrev ae(g:M×D→M×D→Qzq)(fa fb:Qqj):Qqj:=λe=>(fa e).bind λx=>(fb e).bind λy=>g x y
def y9{r:R2}{g:M×D→M×D→Qzq}{ta tb:TE}{fa fb:Qqj}(hr:JR K r g)(ha:JT K ta fa)(hb:JT K tb fb):JT K (ou r ta tb) (ae g fa fb):=by
 intro H₀ O H σ env Q m d R h q;unfold ae at h;cases ea:fa env with
 |none=>rw[ea]at h;cases h
 |some a =>
  cases eb:fb env with
  |none=>rw[ea,eb]at h;cases h
  |some b =>
   rw[ea,eb]at h;refine ha H₀ O H σ env _ a.1 a.2 R ea λx H1 s1 h1=>?_;refine hb H₀ O H1 σ env _ b.1 b.2 (R.keep s1) eb λy H2 s2 h2=>?_;let R2:=(R.keep s1).keep s2;refine hr H₀ O H2 x y a b Q m d R2.od R2.hd (h1.keep s2).h0 h2.h0 h λv H3 s3 h3=>?_;exact q v H3 ((s1.trans s2).trans s3) (h3.hb λa z=>(s1.trans s2).free z)
abbrev cj(g:M×D→Qzq)(fa:Qqj):Qqj:=λe=>(fa e).bind g
def JU(K:Qzk)(r:V→Hp→VK→Prop)(g:M×D→Qzq):Prop :=
 ∀H₀ O H x a Q m d,(∀a,O a→∃o,H a=some o)→(∀a o,H₀ a=some o→∃o',H a=some o')→Val K H₀ O HE H (Prod.fst a) a.2 x→g a=some (m,d)→(∀v H',aG H H'→Val K H₀ O H H' m d v→Q v H')→r x H Q
def abW{r:V→Hp→VK→Prop}{g:M×D→Qzq}{ta:TE}{fa:Qqj}(hr:JU K r g)(ha:JT K ta fa):JT K (QH r ta) (cj g fa):=by
 intro H₀ O H σ env Q m d R h q;unfold cj at h;cases ea:fa env with
 |none=>rw[ea]at h;cases h
 |some a =>
  rw[ea]at h;refine ha H₀ O H σ env _ a.1 a.2 R ea λx H1 s1 h1=>?_;let R1:=R.keep s1;exact hr H₀ O H1 x a Q m d R1.od R1.hd h1.h0 h λv H3 s3 h3=>q v H3 (s1.trans s3) (h3.hb λa z=>s1.free z)
def jT{H:Hp}{Hb:Hp}{i:Int}:Val K H₀ O Hb H .fr (.int i) (.int i):=Rp.int i
def fE{H:Hp}{Hb:Hp}{i:Bool}:Val K H₀ O Hb H .fr (.bl i) (.bl i):=Rp.bl i
def Eg{H:Hp}{Hb:Hp}{i:Str}:Val K H₀ O Hb H .fr (.str i) (.str i):=Rp.str i
abbrev gI(c:Int→Int→Prop)[∀i j,Decidable (c i j)](f:Int→Int→Int):M×D→M×D→Qzq
 | (_,.int i),(_,.int j)=>if c i j then some (.fr,.int (f i j))else none
 |_,_=>none
abbrev wx(f:Int→Int→Int):M×D→M×D→Qzq
 | (_,.int i),(_,.int j)=>some (.fr,.int (f i j))
 |_,_=>none
abbrev AV(f:Int→Int→Bool):M×D→M×D→Qzq
 | (_,.int i),(_,.int j)=>some (.fr,.bl (f i j))
 |_,_=>none
set_option tactic.hygienic true in
def rQ{C:Int→Int→Prop}{c:Int→Int→Prop}[∀i j,Decidable (c i j)]{f:Int→Int→Int}(w:∀i j,c i j→C i j):JR K (rI C λi j=>.int (f i j)) (gI c f):=by
 intro H₀ O H x y a b Q m d _ _ h1 h2 h q;let⟨ma,da⟩:=a;let⟨mb,db⟩:=b;cases da<;>try (cases h;done)
 cases db<;>try (cases h;done)
 rename_i i j;simp only[gI]at h;split at h
 ·rename_i hc;cases h;exact⟨i,j,h1.int,h2.int,w i j hc,q _ H (aG.refl H) jT⟩
 ·cases h
set_option tactic.hygienic true in
def za{f:Int→Int→Int}:JR K (fQ λi j=>.int (f i j)) (wx f):=by
 intro H₀ O H x y a b Q m d _ _ h1 h2 h q;let⟨ma,da⟩:=a;let⟨mb,db⟩:=b;cases da<;>try (cases h;done)
 cases db<;>try (cases h;done)
 rename_i i j;cases h;exact⟨i,j,h1.int,h2.int,q _ H (aG.refl H) jT⟩
set_option tactic.hygienic true in
def Eh{f:Int→Int→Bool}:JR K (fQ λi j=>.bl (f i j)) (AV f):=by
 intro H₀ O H x y a b Q m d _ _ h1 h2 h q;let⟨ma,da⟩:=a;let⟨mb,db⟩:=b;cases da<;>try (cases h;done)
 cases db<;>try (cases h;done)
 rename_i i j;cases h;exact⟨i,j,h1.int,h2.int,q _ H (aG.refl H) fE⟩
def Pl:=wx (·+·)
def jv:=wx (· - ·)
abbrev fZ:=gI (λi j=>(-18446744073709551616<i∧i<18446744073709551616)∨(-18446744073709551616<j∧j<18446744073709551616)) (· * ·)
abbrev bh:=gI (λ_ j=>0<j) (· % ·)
abbrev j4:=gI (λi j=>0≤j∧j≤1000000∧i.natAbs<2^64) (λi j=>i^j.toNat)
abbrev pI:=gI (λi j=>0≤j∧j≤1000000∧i.natAbs<2^64) (λi j=>i*2^j.toNat)
abbrev mM:=gI (λ_ j=>0≤j) (λi j=>i/2^j.toNat)
def gF:=AV (λi j=>decide (i<j))
def ql:=AV (λi j=>decide (i≤j))
def i5:=AV (λi j=>decide (j<i))
def ZQ:JR K (fQ λi j=>.int (i+j)) Pl:=za
def ZR:JR K (fQ λi j=>.int (i-j)) jv:=za
def p64:(2:Int)^64=18446744073709551616:=by decide
def ZS:JR K (rI vn λi j=>.int (i*j)) fZ:=rQ λi j h=>by
 unfold vn;rw[p64];exact h
def ZT:JR K (rI (λ_ j=>0<j) λi j=>.int (i%j)) bh:=rQ λ_ _ h=>h
def ZU:JR K (rI zy λi j=>.int (i^j.toNat)) j4:=rQ λ_ _ h=>h
def ZV:JR K (rI zy λi j=>.int (i*2^j.toNat)) pI:=rQ λ_ _ h=>h
def ZW:JR K (rI (λ_ j=>0≤j) λi j=>.int (i/2^j.toNat)) mM:=rQ λ_ _ h=>h
def abX:JR K (fQ λi j=>.bl (decide (i<j))) gF:=Eh
def abY:JR K (fQ λi j=>.bl (decide (i≤j))) ql:=Eh
def abZ:JR K (fQ λi j=>.bl (decide (j<i))) i5:=Eh
abbrev gQ:D→Option V
 |.non=>some .non
 |.bl b=>some (.bl b)
 |.int i=>some (.int i)
 |.str x=>some (.str x)
 |_=>none
def rB{N:Qzj}{d:D}{v w:V}(h:Rp K N H v d)(e:gQ d=some w):v=w:=by
 cases h<;>simp only[gQ]at e<;>cases e<;>rfl
def aP:M×D→M×D→Qzq:=λa b=>(gQ a.2).bind λx=>(gQ b.2).bind λy=>if zA x y=true then some (.fr,.bl (decide (x=y)))else none
def jI:M×D→M×D→Qzq:=λa b=>(gQ a.2).bind λx=>(gQ b.2).bind λy=>if zA x y=true then some (.fr,.bl (!decide (x=y)))else none
def ab0:JR K QJ aP:=by
 intro H₀ O H x y a b Q m d _ _ h1 h2 h q;unfold aP at h;cases e1:gQ a.2 with
 |none=>rw[e1]at h;cases h
 |some x' =>
  cases e2:gQ b.2 with
  |none=>rw[e1,e2]at h;cases h
  |some y' =>
   rw[e1,e2]at h;obtain rfl:=rB h1.weak e1;obtain rfl:=rB h2.weak e2;simp only[Option.bind_some]at h;split at h
   ·rename_i hc;cases h;exact⟨hc,q _ H (aG.refl H) fE⟩
   ·cases h
def ab1:JR K QK jI:=by
 intro H₀ O H x y a b Q m d _ _ h1 h2 h q;unfold jI at h;cases e1:gQ a.2 with
 |none=>rw[e1]at h;cases h
 |some x' =>
  cases e2:gQ b.2 with
  |none=>rw[e1,e2]at h;cases h
  |some y' =>
   rw[e1,e2]at h;obtain rfl:=rB h1.weak e1;obtain rfl:=rB h2.weak e2;simp only[Option.bind_some]at h;split at h
   ·rename_i hc;cases h;exact⟨hc,q _ H (aG.refl H) fE⟩
   ·cases h
abbrev i6:D→Bool
 |.non=>true
 |_=>false
def zJ:M×D→M×D→Qzq:=λa b=>if i6 b.2=true then some (.fr,.bl (i6 a.2))else none
def lu:M×D→M×D→Qzq:=λa b=>if i6 b.2=true then some (.fr,.bl (!i6 a.2))else none
def MT{N:Qzj}{d:D}{v:V}(h:Rp K N H v d):i6 d=decide (v=.non):=by
 cases h<;>rfl
def MV{d:D}(h:i6 d=true):d=.non:=by
 cases d<;>first|rfl|cases h
def ZX:JR K (λx y H Q=>y=.non∧Q (.bl (decide (x=.non))) H) zJ:=by
 intro H₀ O H x y a b Q m d _ _ h1 h2 h q;let⟨mb,db⟩:=b;unfold zJ at h;rw[MT h1.weak]at h;by_cases hb:i6 db=true
 ·rw[if_pos hb]at h;cases MV hb;cases h;exact⟨h2.non,q _ H (aG.refl H) fE⟩
 ·rw[if_neg hb]at h;cases h
def Xo:JR K (λx y H Q=>y=.non∧Q (.bl (!decide (x=.non))) H) lu:=by
 intro H₀ O H x y a b Q m d _ _ h1 h2 h q;let⟨mb,db⟩:=b;unfold lu at h;rw[MT h1.weak]at h;by_cases hb:i6 db=true
 ·rw[if_pos hb]at h;cases MV hb;cases h;exact⟨h2.non,q _ H (aG.refl H) fE⟩
 ·rw[if_neg hb]at h;cases h
def au:M×D→M×D→Qzq
 | (m,.lst ds),(_,.int i)=>(bp ds i).map λd=>(bf m,d)
 | (m,.tup ds),(_,.int i)=>(bp ds i).map λd=>(bf m,d)
 | (_,.str z),(_,.int i)=>if z.length≤sizeLine then (bp z.cps.toList i).map λc=>(.fr,.str ⟨#[c]⟩)else none
 |_,_=>none
set_option tactic.hygienic true in
def ab2:JR K (sO K) au:=by
 intro H₀ O H x y a b Q m d _ _ h1 h2 h q;let⟨ma,da⟩:=a;let⟨mb,db⟩:=b;cases da<;>try (cases h;done)
 ·cases db<;>try (cases h;done)
  rename_i z i;simp only[au]at h;split at h
  ·rename_i hl;cases e:bp z.cps.toList i with
   |none=>rw[e]at h;cases h
   |some c =>
    rw[e]at h;cases h;exact .inr (.inr ⟨z,i,c,h1.str,h2.int,hl,e,q _ H (aG.refl H) Eg⟩)
  ·cases h
 ·cases db<;>try (cases h;done)
  rename_i ds i;simp only[au]at h;cases e:bp ds i with
  |none=>rw[e]at h;cases h
  |some c =>
   rw[e]at h;cases h;let⟨p,xs,rfl,hp,hs⟩:=h1.tup;let⟨v,hv,r⟩:=hs.bp e;exact .inr (.inl ⟨p,xs,i,v,rfl,h2.int,hp,hv,q _ H (aG.refl H) (.el r)⟩)
 ·cases db<;>try (cases h;done)
  rename_i ds i;simp only[au]at h;cases e:bp ds i with
  |none=>rw[e]at h;cases h
  |some c =>
   rw[e]at h;cases h;let⟨p,xs,rfl,hp,hs⟩:=h1.lst;let⟨v,hv,r⟩:=hs.bp e;exact .inl ⟨p,xs,i,v,rfl,h2.int,hp,hv,q _ H (aG.refl H) (.el r)⟩
end
section
variable {K:Qzk}{H H' H₀:Hp}{O:Qzj}{σ:St}{env:Ev}
abbrev oD:M×D→Option Bool
 | (_,.bl b)=>some b
 |_=>none
def qW{a:M×D}{b:Bool}(h:oD a=some b):a.2=.bl b:=by
 let⟨m,d⟩:=a;cases d<;>simp only[oD]at h<;>first | (cases h;rfl)|cases h
def gM(fa fb:Qqj):Qqj:=λe=>(fa e).bind λx=>(oD x).bind λb=>if b=true then fb e else some (.fr,.bl false)
def lQ(fa fb:Qqj):Qqj:=λe=>(fa e).bind λx=>(oD x).bind λb=>if b=true then some (.fr,.bl true)else fb e
def j5(fa:Qqj):Qqj:=λe=>(fa e).bind λx=>(oD x).bind λb=>some (.fr,.bl (!b))
def aw{α β:Type}{x:Option α}{f:α→Option β}{y:β}(h:x.bind f=some y):∃a,x=some a∧f a=some y:=by
 cases x with
 |none=>cases h
 |some a=>exact⟨a,rfl,h⟩
def ZY{ta tb:TE}{fa fb:Qqj}(ha:JT K ta fa)(hb:JT K tb fb):JT K (N7 ta tb) (gM fa fb):=by
 intro H₀ O H σ env Q m d R h q;let⟨a,ea,h⟩:=aw h;let⟨b,eb,h⟩:=aw h;refine ha H₀ O H σ env _ a.1 a.2 R ea λx H1 s1 h1=>?_;rw[qW eb]at h1;refine⟨b,h1.bl,?_⟩;cases b with
 |true =>
  rw[if_pos rfl]at h ⊢;exact hb H₀ O H1 σ env _ m d (R.keep s1) h λv H2 s2 h2=>q v H2 (s1.trans s2) (h2.hb λa z=>s1.free z)
 |false =>
  rw[if_neg bx]at h ⊢;cases h;exact q _ H1 s1 fE
def ab3{ta tb:TE}{fa fb:Qqj}(ha:JT K ta fa)(hb:JT K tb fb):JT K (O7 ta tb) (lQ fa fb):=by
 intro H₀ O H σ env Q m d R h q;let⟨a,ea,h⟩:=aw h;let⟨b,eb,h⟩:=aw h;refine ha H₀ O H σ env _ a.1 a.2 R ea λx H1 s1 h1=>?_;rw[qW eb]at h1;refine⟨b,h1.bl,?_⟩;cases b with
 |true =>
  rw[if_pos rfl]at h ⊢;cases h;exact q _ H1 s1 fE
 |false =>
  rw[if_neg bx]at h ⊢;exact hb H₀ O H1 σ env _ m d (R.keep s1) h λv H2 s2 h2=>q v H2 (s1.trans s2) (h2.hb λa z=>s1.free z)
def ZZ{ta:TE}{fa:Qqj}(ha:JT K ta fa):JT K (N8 ta) (j5 fa):=by
 intro H₀ O H σ env Q m d R h q;let⟨a,ea,h⟩:=aw h;let⟨b,eb,h⟩:=aw h;cases h;refine ha H₀ O H σ env _ a.1 a.2 R ea λx H1 s1 h1=>?_;rw[qW eb]at h1;exact⟨b,h1.bl,q _ H1 s1 fE⟩
def jB(f:Qqj):Qqx:=λe=>(f e).bind oD
def vd{t:TE}{f:Qqj}(h:JT K t f):fS K (tB t) (jB f):=by
 intro H₀ O H σ env Q b R e q;let⟨a,ea,e⟩:=aw e;refine h H₀ O H σ env _ a.1 a.2 R ea λx H1 s1 h1=>?_;rw[qW e]at h1;exact⟨b,h1.bl,q H1 s1⟩
def Kh{t:TE}{f:Qqj}(h:JT K t f):fS K (Ec t) (jB f):=vd h
def U4{t:TE}{f:Qqj}(h:JT K t f):fS K (λσ H Q=>t σ H λx H'=>∃k,zB K x H' k∧Q k H') (jB f):=by
 intro H₀ O H σ env Q b R e q;let⟨a,ea,e⟩:=aw e;refine h H₀ O H σ env _ a.1 a.2 R ea λx H1 s1 h1=>?_;rw[qW e]at h1;exact⟨b,by rw[h1.bl];exact rfl,q H1 s1⟩
abbrev cP(f g:Qqx):Qqx:=λe=>(f e).bind λb=>if b=true then g e else some false
abbrev cI(f g:Qqx):Qqx:=λe=>(f e).bind λb=>if b=true then some true else g e
abbrev eO(f:Qqx):Qqx:=λe=>(f e).bind λb=>some (!b)
def Xp{t u:TT}{f g:Qqx}(h:fS K t f)(h':fS K u g):fS K (O4 t u) (cP f g):=by
 intro H₀ O H σ env Q b R e q;let⟨c,ec,e⟩:=aw e;refine h H₀ O H σ env _ c R ec λH1 s1=>?_;cases c with
 |true =>
  rw[if_pos rfl]at e ⊢;exact h' H₀ O H1 σ env _ b (R.keep s1) e λH2 s2=>q H2 (s1.trans s2)
 |false =>
  rw[if_neg bx]at e ⊢;cases e;exact q H1 s1
def Z0{t u:TT}{f g:Qqx}(h:fS K t f)(h':fS K u g):fS K (QD t u) (cI f g):=by
 intro H₀ O H σ env Q b R e q;let⟨c,ec,e⟩:=aw e;refine h H₀ O H σ env _ c R ec λH1 s1=>?_;cases c with
 |true =>
  rw[if_pos rfl]at e ⊢;cases e;exact q H1 s1
 |false =>
  rw[if_neg bx]at e ⊢;exact h' H₀ O H1 σ env _ b (R.keep s1) e λH2 s2=>q H2 (s1.trans s2)
def Xq{t:TT}{f:Qqx}(h:fS K t f):fS K (O6 t) (eO f):=by
 intro H₀ O H σ env Q b R e q;let⟨c,ec,e⟩:=aw e;cases e;exact h H₀ O H σ env _ c R ec λH1 s1=>q H1 s1
abbrev rR(c:Qqx)(fa fb:Qqj):Qqj:=λe=>(c e).bind λb=>if b=true then fa e else fb e
def Z1{t:TT}{c:Qqx}{ta tb:TE}{fa fb:Qqj}(hc:fS K t c)(ha:JT K ta fa)(hb:JT K tb fb):JT K (QF t ta tb) (rR c fa fb):=by
 intro H₀ O H σ env Q m d R h q;let⟨b,eb,h⟩:=aw h;refine hc H₀ O H σ env _ b R eb λH1 s1=>?_;cases b with
 |true =>
  rw[if_pos rfl]at h ⊢;exact ha H₀ O H1 σ env _ m d (R.keep s1) h λv H2 s2 h2=>q v H2 (s1.trans s2) (h2.hb λa z=>s1.free z)
 |false =>
  rw[if_neg bx]at h ⊢;exact hb H₀ O H1 σ env _ m d (R.keep s1) h λv H2 s2 h2=>q v H2 (s1.trans s2) (h2.hb λa z=>s1.free z)
def nB(g g':M×D→M×D→Qzq)(fa fb fc:Qqj):Qqj:=λe=>(fa e).bind λx=>(fb e).bind λy=>(g x y).bind λz=>(oD z).bind λk=>if k=true then (fc e).bind λw=>g' y w else some (.fr,.bl false)
abbrev ai:Qqz:=λ_=>some []
abbrev ag(f:Qqj)(g:Qqz):Qqz:=λe=>(f e).bind λx=>(g e).bind λr=>some (x::r)
def Xr:iI K mI ai:=by
 intro H₀ O H σ env Q ay R h q;cases h;exact q [] H (aG.refl H) .nil
def VP{te:TE}{ta:TA}{f:Qqj}{g:Qqz}(hf:JT K te f)(hg:iI K ta g):iI K (nF te ta) (ag f g):=by
 intro H₀ O H σ env Q ay R h q;let⟨x,ex,h⟩:=aw h;let⟨r,er,h⟩:=aw h;cases h;refine hf H₀ O H σ env _ x.1 x.2 R ex λv H1 s1 h1=>?_;refine hg H₀ O H1 σ env _ r (R.keep s1) er λvs H2 s2 h2=>?_;exact q (v::vs) H2 (s1.trans s2) (.cons (h1.keep s2) (nJ (λ_ _ z=>z.hb λa z=>s1.free z) h2))
theorem gK.iH{N:Qzj}{Hb:Hp}:∀{ay:List (M×D)}{vs:List V},(∀md∈ay,∀v,Val K H₀ O Hb H md.1 md.2 v→Rp K N H v md.2)→gK K H₀ O Hb H ay vs→aB K N H vs (ay.map (·.2))
 |_,_,_,.nil=>.nil
 |md::ay,v::vs,h,.cons a r=>.cons (h md cg v a) (gK.iH (λx hx=>h x (c9 _ hx)) r)
def dn{p:Addr}{o:HO}(h:H p=none):aG H (upd H p o):=λb u e=>by rw[aI (eZ e h)];exact e
def iR(ay:List (M×D)):Qzq :=
 if ay.length≤sizeLine then
  if (ay.all λmd=>cY md.1 md.2)=true then some (.un,.lst (ay.map (·.2)))
  else if (ay.all λmd=>ib md.1 md.2)=true then some (.al,.lst (ay.map (·.2)))else none
 else none
def bL(fs:Qqz):Qqj:=λe=>(fs e).bind iR
def uv{p:Addr}{xs:List V}{ds:Qzz}(od:∀a,O a→∃o,H a=some o)(hd:∀a o,H₀ a=some o→∃o',H a=some o')(hp:H p=none)(r:aB K (λa=>¬O a∧H₀ a=none) H xs ds):Val K H₀ O H (upd H p (.lst xs)) .un (.lst ds) (.ref p):=by
 refine⟨p,rfl,hp,?_,?_,xs,bQ,?_⟩
 ·cases e:H₀ p with
  |none=>rfl
  |some o=>let⟨o',e'⟩:=hd p o e;rw[hp]at e';cases e'
 ·intro z;let⟨o,e⟩:=od p z;rw[hp]at e;cases e
 ·refine(aB.wk (λa h ⟨o,e⟩=>⟨h,?_⟩) r).keep (.same (dn hp));exact eZ e hp
def iN{p:Addr}(od:∀a,O a→∃o,H a=some o)(hp:H p=none):¬O p:=by
 intro z;let⟨o,e⟩:=od p z;rw[hp]at e;cases e
def k5{p:Addr}(hd:∀a o,H₀ a=some o→∃o',H a=some o')(hp:H p=none):H₀ p=none:=by
 cases e:H₀ p with
 |none=>rfl
 |some o=>let⟨o',e'⟩:=hd p o e;rw[hp]at e';cases e'
def Z2{ta:TA}{fs:Qqz}(ha:iI K ta fs):JT K (zC ta) (bL fs):=by
 intro H₀ O H σ env Q m d R h q;let⟨ay,e,h⟩:=aw h;unfold iR at h;split at h
 ·rename_i hl;refine ha H₀ O H σ env _ ay R e λvs H1 s1 h1=>⟨by rw[←cM h1];exact hl,λp hp=>?_⟩;let R1:=R.keep s1;split at h
  ·rename_i hs;cases h;rw[lJ]at hs;exact q _ _ (s1.trans (dn hp)) ((uv R1.od R1.hd hp (h1.iH λmd hm v hv=>hv.cY (hs md hm))).hb λa z=>s1.free z)
  ·split at h
   ·rename_i hs;cases h;rw[lJ]at hs;refine q _ _ (s1.trans (dn hp)) ?_;exact Rp.lst (.inl bQ) (iN R1.od hp) ((h1.iH λmd hm v hv=>hv.ib (hs md hm)).keep (.same (dn hp)))
   ·cases h
 ·cases h
def ly(ay:List (M×D)):Qzq :=
 if ay.length≤sizeLine then
  if (ay.all λmd=>cY md.1 md.2)=true then some (.fr,.tup (ay.map (·.2)))
  else if (ay.all λmd=>ib md.1 md.2)=true then some (.al,.tup (ay.map (·.2)))
  else if (ay.all λmd=>wu md.1 md.2)=true then some (.rb,.tup (ay.map (·.2)))else none
 else none
def aY(fs:Qqz):Qqj:=λe=>(fs e).bind ly
def Z3{ta:TA}{fs:Qqz}(ha:iI K ta fs):JT K (EG ta) (aY fs):=by
 intro H₀ O H σ env Q m d R h q;let⟨ay,e,h⟩:=aw h;unfold ly at h;split at h
 ·rename_i hl;refine ha H₀ O H σ env _ ay R e λvs H1 s1 h1=>⟨by rw[←cM h1];exact hl,λp hp=>?_⟩;split at h
  ·rename_i hs;cases h;rw[lJ]at hs;exact q _ _ (s1.trans (dn hp)) (Rp.tup (.inl bQ) ((h1.iH λmd hm v hv=>hv.cY (hs md hm)).keep (.same (dn hp))))
  ·split at h
   ·rename_i hs;cases h;rw[lJ]at hs;exact q _ _ (s1.trans (dn hp)) (Rp.tup (.inl bQ) ((h1.iH λmd hm v hv=>hv.ib (hs md hm)).keep (.same (dn hp))))
   ·split at h
    ·rename_i hs;cases h;rw[lJ]at hs;exact q _ _ (s1.trans (dn hp)) (Rp.tup (.inl bQ) ((h1.iH λmd hm v hv=>hv.wu (hs md hm)).keep (.same (dn hp))))
    ·cases h
 ·cases h
def iJ(m:M)(ds:Qzz):Qzq :=
 if bf m=.al then (if D.cO ds=true then some (.un,.lst ds)else some (.al,.lst ds))else if bf m=.rb then (if D.cO ds=true then some (.un,.lst ds)else none)else some (.un,.lst ds)
def yu{p:Addr}{xs:List V}{ds:Qzz}{m m':M}{d:D}(od:∀a,O a→∃o,H a=some o)(hd:∀a o,H₀ a=some o→∃o',H a=some o')(hp:H p=none)(r:aB K (NM H₀ O (bf m)) H xs ds)(h:iJ m ds=some (m',d)):Val K H₀ O H (upd H p (.lst xs)) m' d (.ref p):=by
 unfold iJ at h;split at h
 ·rename_i e;rw[e]at r;split at h
  ·rename_i e;cases h;exact uv od hd hp (aB.im e r)
  ·cases h;exact Rp.lst (.inl bQ) (iN od hp) (r.keep (.same (dn hp)))
 ·split at h
  ·split at h
   ·rename_i e;cases h;exact uv od hd hp (aB.im e r)
   ·cases h
  ·rename_i e1 e2;cases h;let e:bf m=.fr:=by cases m<;>simp[bf]at e1 e2 ⊢
   rw[e]at r;exact uv od hd hp r
def lR(K:Qzk)(r:List V→Hp→VK→Prop)(g:List (M×D)→Qzq):Prop :=
 ∀H₀ O H vs ay Q m d,(∀a,O a→∃o,H a=some o)→(∀a o,H₀ a=some o→∃o',H a=some o')→gK K H₀ O HE H ay vs→g ay=some (m,d)→(∀v H',aG H H'→Val K H₀ O H H' m d v→Q v H')→r vs H Q
abbrev aL(g:List (M×D)→Qzq)(fs:Qqz):Qqj:=λe=>(fs e).bind g
def ab4{r:List V→Hp→VK→Prop}{g:List (M×D)→Qzq}{ta:TA}{fs:Qqz}(hr:lR K r g)(ha:iI K ta fs):JT K (AF r ta) (aL g fs):=by
 intro H₀ O H σ env Q m d R h q;let⟨ay,e,h⟩:=aw h;refine ha H₀ O H σ env _ ay R e λvs H1 s1 h1=>?_;let R1:=R.keep s1;exact hr H₀ O H1 vs ay Q m d R1.od R1.hd (nJ (λ_ _ z=>z.h0) h1) h λv H3 s3 h3=>q v H3 (s1.trans s3) (h3.hb λa z=>s1.free z)
def gK.one{Hb:Hp}{a:M×D}{vs:List V}(h:gK K H₀ O Hb H [a] vs):∃v,vs=[v]∧Val K H₀ O Hb H a.1 a.2 v:=by
 cases h with|cons q t=>cases t;exact⟨_,rfl,q⟩
def gK.two{Hb:Hp}{a b:M×D}{vs:List V}(h:gK K H₀ O Hb H [a,b] vs):∃v w,vs=[v,w]∧Val K H₀ O Hb H a.1 a.2 v∧Val K H₀ O Hb H b.1 b.2 w:=by
 cases h with|cons q t=>cases t with|cons q' t=>cases t;exact⟨_,_,rfl,q,q'⟩
abbrev bJ:List (M×D)→Qzq
 |[(_,.lst ds)]=>some (.fr,.int ds.length)
 |[(_,.tup ds)]=>some (.fr,.int ds.length)
 |[(_,.str z)]=>if z.length≤sizeLine then some (.fr,.int z.length)else none
 |_=>none
def Xs:lR K (λxs H Q=>∃x n,xs=[x]∧EE K x H n∧Q (.int n) H) bJ:=by
 intro H₀ O H vs ay Q m d _ _ hv h q;unfold bJ at h;split at h
 ·cases h;let⟨v,rfl,hw⟩:=hv.one;let⟨a,xs,rfl,r,s⟩:=hw.lst;exact⟨_,_,rfl,.inl ⟨xs,r,s.len.symm⟩,q _ H (aG.refl H) jT⟩
 ·cases h;let⟨v,rfl,hw⟩:=hv.one;let⟨a,xs,rfl,r,s⟩:=hw.tup;exact⟨_,_,rfl,.inr ⟨xs,r,s.len.symm⟩,q _ H (aG.refl H) jT⟩
 ·split at h
  ·rename_i hz;cases h;let⟨v,rfl,hw⟩:=hv.one;obtain rfl:=hw.str;exact⟨_,_,rfl,⟨hz,rfl⟩,q _ H (aG.refl H) jT⟩
  ·cases h
 ·cases h
abbrev nU:List (M×D)→Qzq
 |[(_,.int i)]=>some (.fr,.int i)
 |[(_,.bl k)]=>some (.fr,.int (if k then 1 else 0))
 |_=>none
def Xt:lR K (λxs H Q=>(∃i,xs=[.int i]∧Q (.int i) H)∨∃k,xs=[.bl k]∧Q (.int (if k then 1 else 0)) H) nU:=by
 intro H₀ O H vs ay Q m d _ _ hv h q;unfold nU at h;split at h
 ·cases h;let⟨v,rfl,hw⟩:=hv.one;obtain rfl:=hw.int;exact .inl ⟨_,rfl,q _ H (aG.refl H) jT⟩
 ·cases h;let⟨v,rfl,hw⟩:=hv.one;obtain rfl:=hw.bl;exact .inr ⟨_,rfl,q _ H (aG.refl H) jT⟩
 ·cases h
abbrev vw:List (M×D)→Qzq
 |[(_,.int i),(_,.int j)]=>some (.fr,.int (if j>i then j else i))
 |_=>none
def Xu:lR K (λxs H Q=>∃i j,xs=[.int i,.int j]∧Q (.int (if j>i then j else i)) H) vw:=by
 intro H₀ O H vs ay Q m d _ _ hv h q;unfold vw at h;split at h
 ·cases h;let⟨v,w,rfl,hx,hw⟩:=hv.two;obtain rfl:=hx.int;obtain rfl:=hw.int;exact⟨_,_,rfl,q _ H (aG.refl H) jT⟩
 ·cases h
def ve:List (M×D)→Qzq
 |[(m,.lst ds)]=>iJ m ds
 |[(m,.tup ds)]=>iJ m ds
 |_=>none
def VQ:lR K (λxs H Q=>∃p ys,xs=[.ref p]∧(b0 K H p ys∨bC K H p ys)∧∀l,H l=none→Q (.ref l) (upd H l (.lst ys))) ve:=by
 intro H₀ O H vs ay Q m d od hd hv h q;unfold ve at h;split at h
 ·let⟨v,rfl,hw⟩:=hv.one;let⟨a,xs,rfl,r,s⟩:=hw.lst;exact⟨_,_,rfl,.inl r,λl hl=>q _ _ (dn hl) (yu od hd hl s h)⟩
 ·let⟨v,rfl,hw⟩:=hv.one;let⟨a,xs,rfl,r,s⟩:=hw.tup;exact⟨_,_,rfl,.inr r,λl hl=>q _ _ (dn hl) (yu od hd hl s h)⟩
 ·cases h
def wy(K:Qzk)(t:TO)(f:Ev→Option (Option Int)):Prop :=
 ∀H₀ O H σ env Q b,fm K H₀ O H σ env→f env=some b→(∀H',aG H H'→Q b H')→t σ H Q
abbrev iz:Ev→Option (Option Int):=λ_=>some none
abbrev pJ:M×D→Option Int
 | (_,.int i)=>some i
 |_=>none
def Dq{a:M×D}{b:Int}(h:pJ a=some b):a.2=.int b:=by
 let⟨m,d⟩:=a;cases d<;>simp only[pJ]at h<;>first | (cases h;rfl)|cases h
def gx(f:Qqj):Ev→Option (Option Int):=λe=>(f e).bind λx=>(pJ x).map some
def VR:wy K K6 iz:=by
 intro H₀ O H σ env Q b R h q;cases h;exact q H (aG.refl H)
def VW{t:TE}{f:Qqj}(h:JT K t f):wy K (Oc t) (gx f):=by
 intro H₀ O H σ env Q b R e q;let⟨a,ea,e⟩:=aw e;cases ei:pJ a with
 |none=>rw[ei]at e;cases e
 |some i =>
  rw[ei]at e;cases e;refine h H₀ O H σ env _ a.1 a.2 R ea λx H1 s1 h1=>?_;rw[Dq ei]at h1;exact⟨i,h1.int,q H1 s1⟩
def oE(K:Qzk)(r:V→Option Int→Option Int→Hp→VK→Prop)(g:M×D→Option Int→Option Int→Qzq):Prop :=
 ∀H₀ O H x lo hi a Q m d,(∀a,O a→∃o,H a=some o)→(∀a o,H₀ a=some o→∃o',H a=some o')→Val K H₀ O HE H (Prod.fst a) a.2 x→g a lo hi=some (m,d)→(∀v H',aG H H'→Val K H₀ O H H' m d v→Q v H')→r x lo hi H Q
abbrev gR(g:M×D→Option Int→Option Int→Qzq)(f:Qqj)(l u:Ev→Option (Option Int)):Qqj:=λe=>(f e).bind λx=>(l e).bind λlo=>(u e).bind λhi=>g x lo hi
def ab5{r:V→Option Int→Option Int→Hp→VK→Prop}{g:M×D→Option Int→Option Int→Qzq}{te:TE}{tl th:TO}{f:Qqj}{l u:Ev→Option (Option Int)}(hr:oE K r g)(he:JT K te f)(hl:wy K tl l)(hu:wy K th u):JT K (QM r te tl th) (gR g f l u):=by
 intro H₀ O H σ env Q m d R h q;let⟨x,ex,h⟩:=aw h;let⟨lo,el,h⟩:=aw h;let⟨hi,eh,h⟩:=aw h;refine he H₀ O H σ env _ x.1 x.2 R ex λv H1 s1 h1=>?_;refine hl H₀ O H1 σ env _ lo (R.keep s1) el λH2 s2=>?_;refine hu H₀ O H2 σ env _ hi ((R.keep s1).keep s2) eh λH3 s3=>?_;let R3:=((R.keep s1).keep s2).keep s3;exact hr H₀ O H3 v lo hi x Q m d R3.od R3.hd ((h1.keep s2).keep s3).h0 h λv H4 s4 h4=>q v H4 (((s1.trans s2).trans s3).trans s4) (h4.hb λa z=>((s1.trans s2).trans s3).free z)
def cut{α:Type}(xs:List α)(lo hi:Option Int):List α:=(xs.drop (HT.bj xs.length 0 lo)).take (HT.bj xs.length xs.length hi-HT.bj xs.length 0 lo)
def E4:M×D→Option Int→Option Int→Qzq
 | (m,.lst ds),lo,hi=>iJ m (cut ds lo hi)
 |_,_,_=>none
theorem aB.cut{N:Qzj}{xs:List V}{ds:Qzz}{lo hi:Option Int}(r:aB K N H xs ds):aB K N H (j0 xs lo hi) (J.cut ds lo hi):=by
 unfold j0 J.cut;rw[r.len];exact(r.drop _).take _
def VX:oE K (EH K) E4:=by
 intro H₀ O H x lo hi a Q m d od hd h1 h q;let⟨ma,da⟩:=a;cases da<;>try (cases h;done)
 let⟨p,xs,rfl,r,s⟩:=h1.lst;exact⟨p,xs,rfl,r,λl hl=>q _ _ (dn hl) (yu od hd hl s.cut h)⟩
abbrev mJ:M→M→M
 |.al,_=>.al
 |_,.al=>.al
 |.rb,_=>.rb
 |_,.rb=>.rb
 |_,_=>.fr
def NM.QY{a b:M}{x:Addr}(ha:bf a≠.rb)(hb:bf b≠.rb)(h:NM H₀ O (bf a) x):NM H₀ O (bf (mJ a b)) x:=by
 cases a<;>cases b<;>first|exact h|exact h.1|exact absurd rfl ha|exact absurd rfl hb
def NM.QZ{a b:M}{x:Addr}(ha:bf a≠.rb)(hb:bf b≠.rb)(h:NM H₀ O (bf b) x):NM H₀ O (bf (mJ a b)) x:=by
 cases a<;>cases b<;>first|exact h|exact h.1|exact absurd rfl ha|exact absurd rfl hb
def rS:M×D→M×D→Qzq
 | (m,.lst ds),(n,.lst es)=>if bf m=.rb∨bf n=.rb then none else if ds.length+es.length≤sizeLine then iJ (mJ m n) (ds++es)else none
 |_,_=>none
def zb(K:Qzk):R2:=λx y H Q=>∃l b xs zs,x=.ref l∧y=.ref b∧b0 K H l xs∧b0 K H b zs∧xs.length+zs.length≤sizeLine∧∀p,H p=none→Q (.ref p) (upd H p (.lst (xs++zs)))
def Z4:JR K (zb K) rS:=by
 intro H₀ O H x y a b Q m d od hd h1 h2 h q;let⟨ma,da⟩:=a;let⟨mb,db⟩:=b;cases da<;>try (cases h;done)
 cases db<;>try (cases h;done)
 simp only[rS]at h;split at h
 ·cases h
 ·rename_i hn;split at h
  ·rename_i hl;let⟨p,xs,rfl,r,s⟩:=h1.lst;let⟨p',GH,rfl,r',s'⟩:=h2.lst;let n1:bf ma≠.rb:=λz=>hn (.inl z);let n2:bf mb≠.rb:=λz=>hn (.inr z);refine⟨p,p',xs,GH,rfl,rfl,r,r',by rw[s.len,s'.len];exact hl,λl hl=>q _ _ (dn hl) (yu od hd hl (aB.app (s.wk λ_ h _=>NM.QY n1 n2 h) (s'.wk λ_ h _=>NM.QZ n1 n2 h)) h)⟩
  ·cases h
end
abbrev own:M→Bool
 |.bo=>true
 |.bi=>true
 |_=>false
def Xv{m:M}(h:own m=true):jH m=true:=by cases m<;>first|rfl|cases h
theorem kZ{α β:Type}{F:α→β→Prop}:∀{l:List α}{r:List β},l.length=r.length→(∀(j:Nat) a b,l[j]?=some a→r[j]?=some b→F a b)→Paired F l r
 |[],[],_,_=>.nil
 |a::l,b::r,e,h=>.cons (h 0 a b rfl rfl) (kZ (by simpa using e) λj x y h1 h2=>h (j+1) x y (by simpa using h1) (by simpa using h2))
 |[],_::_,e,_=>by simp at e
 |_::_,[],e,_=>by simp at e
def AW(H:Hp)(σ:St)(env:Ev):Prop :=
 (∀(i j:Nat) (d d':D),env[i]?=some (some (.nb,d))→env[j]?=some (some (.nb,d'))→i=j) ∧
 ∀(i j:Nat) (d:D) (x:M×D) (p q:Addr) (xs:List V),env[i]?=some (some (.nb,d))→σ[i]?=some (some (.ref p))→env[j]?=some (some x)→own x.1=true→σ[j]?=some (some (.ref q))→H p=some (.lst xs)→q≠p∧V.ref q∉xs
structure Rel (K:Qzk)(H₀:Hp)(I:Nat→Qxx)(O:Qzj)(H:Hp)(σ:St)(env:Ev):Prop where
 e:fm K H₀ O H σ env
 fr:∀a o,(∀i,I i≠some a)→H₀ a=some o→H a=some o
 ow:∀a,O a→(∃i,I i=some a)∨H₀ a=none
 ba:∀(i:Nat) d p,env[i]?=some (some (.bi,d))→σ[i]?=some (some (.ref p))→I i=some p
 dj:∀(i j:Nat) (x y:M×D) (p:Addr),env[i]?=some (some x)→env[j]?=some (some y)→own x.1=true→own y.1=true→σ[i]?=some (some (.ref p))→σ[j]?=some (some (.ref p))→i=j
 nd:AW H σ env
def aQ(O:Qzj)(H:Hp)(O':Qzj)(H':Hp):Prop:=∀a o,H a=some o→¬O a→H' a=some o∧¬O' a
inductive Fl where
 |nx (e:Ev)|bk (e:Ev)|ct (e:Ev)|rt (e:Ev) (m:M) (d:D)
noncomputable abbrev Qqq:=Ev→Option Fl
def pL(K:Qzk)(H₀:Hp)(I:Nat→Qxx)(O:Qzj)(H:Hp)(Ds:Ends):Fl→Prop
 |.nx e=>∀O' H' σ',Rel K H₀ I O' H' σ' e→aQ O H O' H'→Ds.nx σ' H'
 |.bk e=>∀O' H' σ',Rel K H₀ I O' H' σ' e→aQ O H O' H'→Ds.bk σ' H'
 |.ct e=>∀O' H' σ',Rel K H₀ I O' H' σ' e→aQ O H O' H'→Ds.ct σ' H'
 |.rt e m d=>∀O' H' σ' v,Rel K H₀ I O' H' σ' e→aQ O H O' H'→Val K H₀ O' HE H' m d v→Ds.rt v H'
def JS(K:Qzk)(ts:TS)(g:Qqq):Prop :=
 ∀H₀ I O H σ env Ds fl,Rel K H₀ I O H σ env→g env=some fl→pL K H₀ I O H Ds fl→ts Ds σ H
section
variable {K:Qzk}{H H' H₀:Hp}{I:Nat→Qxx}{O O':Qzj}{σ:St}{env:Ev}
def aQ.refl:aQ O H O H:=λa o h n=>⟨h,n⟩
def aQ.trans{O1 O2:Qzj}{H1 H2:Hp}(a:aQ O H O1 H1)(b:aQ O1 H1 O2 H2):aQ O H O2 H2:=λx o h n=>b x o (a x o h n).1 (a x o h n).2
def aQ.same(s:aG H H'):aQ O H O H':=λa o h n=>⟨s a o h,n⟩
def AW.keep(h:AW H σ env)(w:∀(i:Nat) d p,env[i]?=some (some (.nb,d))→σ[i]?=some (some (.ref p))→H' p=H p):AW H' σ env :=
 ⟨h.1,λi j d x p q xs h1 h2 h3 h4 h5 h6=>h.2 i j d x p q xs h1 h2 h3 h4 h5 (by rw[←w i d p h1 h2];exact h6)⟩
def fm.nest(R:fm K H₀ O H σ env){i:Nat}{d:D}{p:Addr}(h1:env[i]?=some (some (.nb,d)))(h2:σ[i]?=some (some (.ref p))):∃(qs:List Addr) (aS:List (Qzz)),d=.lst (aS.map D.lst)∧O p∧H₀ p=none∧H p=some (.lst (qs.map V.ref))∧qs.Nodup∧(∀q∈qs,O q∧H₀ q=none∧q≠p) ∧
  Paired (λq ds=>∃xs,H q=some (.lst xs)∧aB K (λa=>¬O a∧H₀ a=none) H xs ds) qs aS:=by
 let⟨v,hv,_,hm⟩:=R.at h1;rw[h2]at hv;cases hv;let⟨p',qs,aS,e,r⟩:=hm;cases e;exact⟨qs,aS,r⟩
theorem Rel.keep(R:Rel K H₀ I O H σ env)(s:aG H H'):Rel K H₀ I O H' σ env:=⟨R.e.keep s,λa o n h=>s _ _ (R.fr a o n h),R.ow,R.ba,R.dj,R.nd.keep λi d p h1 h2=>by
 let⟨qs,aS,_,_,_,e,_⟩:=R.e.nest h1 h2;rw[s _ _ e,e]⟩
abbrev Q0:M→Bool
 |.al=>true
 |.fr=>true
 |_=>false
def Xw{m:M}(h:Q0 m=true):jH m=true:=by cases m<;>first|rfl|cases h
def pL.pre{O1:Qzj}{H1:Hp}{Ds:Ends}{fl:Fl}(s:aQ O H O1 H1)(h:pL K H₀ I O H Ds fl):pL K H₀ I O1 H1 Ds fl:=by
 cases fl<;>simp only[pL]at h ⊢
 ·exactλO' H' σ' R t=>h O' H' σ' R (s.trans t)
 ·exactλO' H' σ' R t=>h O' H' σ' R (s.trans t)
 ·exactλO' H' σ' R t=>h O' H' σ' R (s.trans t)
 ·exactλO' H' σ' v R t=>h O' H' σ' v R (s.trans t)
abbrev aR:Qqq:=λe=>some (.nx e)
def Xx:JS K y4 aR:=by
 intro H₀ I O H σ env Ds fl R h q;cases h;exact q O H σ R aQ.refl
abbrev aq(f g:Qqq):Qqq:=λe=>(f e).bind λr=>match r with
 |.nx e'=>g e'
 |.bk e'=>some (.bk e')
 |.ct e'=>some (.ct e')
 |.rt e' m d=>some (.rt e' m d)
def Z5{t u:TS}{f g:Qqq}(ht:JS K t f)(hu:JS K u g):JS K (nR t u) (aq f g):=by
 intro H₀ I O H σ env Ds fl R h q;let⟨r,er,h⟩:=aw h;refine ht H₀ I O H σ env _ r R er ?_;cases r with
 |nx e'=>exactλO' H' σ' R' s=>hu H₀ I O' H' σ' e' Ds fl R' h (q.pre s)
 |bk e'=>cases h;exact q
 |ct e'=>cases h;exact q
 |rt e' m d=>cases h;exact q
abbrev aF(f:Qqj):Qqq:=λe=>(f e).bind λx=>some (.rt e x.1 x.2)
def Z6{t:TE}{f:Qqj}(h:JT K t f):JS K (rJ t) (aF f):=by
 intro H₀ I O H σ env Ds fl R e q;let⟨x,ex,e⟩:=aw e;cases e;exact h H₀ O H σ env _ x.1 x.2 R.e ex λv H1 s1 h1=>q O H1 σ v (R.keep s1) (aQ.same s1) h1.h0
abbrev aM(c:Qqx)(f g:Qqq):Qqq:=λe=>(c e).bind λb=>if b=true then f e else g e
def ab6{c:TT}{t u:TS}{fc:Qqx}{f g:Qqq}(hc:fS K c fc)(ht:JS K t f)(hu:JS K u g):JS K (zv c t u) (aM fc f g):=by
 intro H₀ I O H σ env Ds fl R h q;let⟨b,eb,h⟩:=aw h;refine hc H₀ O H σ env _ b R.e eb λH1 s1=>?_;cases b with
 |true =>
  rw[if_pos rfl]at h ⊢;exact ht H₀ I O H1 σ env Ds fl (R.keep s1) h (q.pre (aQ.same s1))
 |false =>
  rw[if_neg bx]at h ⊢;exact hu H₀ I O H1 σ env Ds fl (R.keep s1) h (q.pre (aQ.same s1))
abbrev Oj:M→Option M
 |.al=>some .al
 |.fr=>some .fr
 |.un=>some .bo
 |.ut=>some .fr
 |_=>none
def nC(x:M×D):Qzq:=match Oj x.1 with
 |some m=>some (m,x.2)
 |none=>if x.2.cB=true then some (.fr,x.2)else none
theorem E5{α β:Type}{F:α→β→Prop}{a:α}{b:β}(q:F a b):∀{l:List α}{r:List β} (i:Nat),Paired F l r→Paired F (l.set i a) (r.set i b)
 |_,_,_,.nil=>.nil
 |_,_,0,.cons _ t=>.cons q t
 |_,_,i+1,.cons h t=>.cons h (E5 q i t)
def get_set{α:Type}{l:List α}{i j:Nat}{a b:α}(h:(l.set i a)[j]?=some b):(j=i∧b=a)∨(j≠i∧l[j]?=some b):=by
 rw[mR]at h;split at h
 ·rename_i e;split at h
  ·exact .inl ⟨e.symm,(eC h).symm⟩
  ·cases h
 ·rename_i e;exact .inr ⟨λz=>e z.symm,h⟩
def Rel.oY{i:Nat}{x:M×D}{p:Addr}(R:Rel K H₀ I O H σ env)(hx:env[i]?=some (some x))(ho:own x.1=true)(hp:σ[i]?=some (some (.ref p))):O p∧Cell K (λa=>¬O a∧H₀ a=none) H p x.2:=by
 let⟨m,d⟩:=x;let⟨v,hv,n,hm⟩:=R.e.at hx;rw[hp]at hv;cases hv;cases m<;>simp only[own]at ho<;>try (cases ho;done)
 ·let⟨p',e,h1,_,c⟩:=hm;cases e;exact⟨h1,c⟩
 ·let⟨p',e,h1,c⟩:=hm;cases e;exact⟨h1,c⟩
theorem C2{F:Addr→Qzz→Prop}:∀{qs:List Addr}{aS:List (Qzz)}{q:Addr},Paired F qs aS→q∈qs→∃ds,F q ds
 |_,_,_,.nil,h=>nomatch h
 |_,_,_,.cons a t,h=>by
  rcases dN.mp h with rfl|h
  ·exact⟨_,a⟩
  ·exact C2 t h
def Rel.set_plain{i:Nat}{m:M}{d:D}{v:V}(R:Rel K H₀ I O H σ env)(hm:own m=false)(hu:Q0 m=true)(h:Val K H₀ O HE H m d v):Rel K H₀ I O H (σ.set i (some v)) (env.set i (some (m,d))):=by
 refine⟨⟨E5 (λm' d' q=>?_) i R.e.sl,R.e.od,R.e.hd,R.e.on⟩,R.fr,R.ow,λi' d' p h1 p1=>?_,λi' j x y p h1 h2 o1 o2 p1 p2=>?_,⟨λi' j d1 d2 h1 h2=>?_,λi' j d1 x p q xs h1 p1 h2 o2 p2 e=>?_⟩⟩
 ·cases q;exact⟨Xw hu,v,rfl,h⟩
 ·rcases get_set h1 with⟨rfl,q⟩|⟨n1,q1⟩
  ·cases q;cases hm
  ·rw[eR (λz=>n1 z.symm)]at p1;exact R.ba i' d' p q1 p1
 ·rcases get_set h1 with⟨rfl,q⟩|⟨n1,q1⟩
  ·cases q;rw[hm]at o1;cases o1
  ·rcases get_set h2 with⟨rfl,q⟩|⟨n2,q2⟩
   ·cases q;rw[hm]at o2;cases o2
   ·rw[eR (λz=>n1 z.symm)]at p1;rw[eR (λz=>n2 z.symm)]at p2;exact R.dj i' j x y p q1 q2 o1 o2 p1 p2
 ·rcases get_set h1 with⟨rfl,q⟩|⟨n1,q1⟩
  ·cases q;cases hu
  ·rcases get_set h2 with⟨rfl,q⟩|⟨n2,q2⟩
   ·cases q;cases hu
   ·exact R.nd.1 i' j d1 d2 q1 q2
 ·rcases get_set h1 with⟨rfl,q⟩|⟨n1,q1⟩
  ·cases q;cases hu
  ·rcases get_set h2 with⟨rfl,q⟩|⟨n2,q2⟩
   ·cases q;rw[hm]at o2;cases o2
   ·rw[eR (λz=>n1 z.symm)]at p1;rw[eR (λz=>n2 z.symm)]at p2;exact R.nd.2 i' j d1 x p q xs q1 p1 q2 o2 p2 e
def Rel.Z7{i:Nat}{d:D}{v:V}{H1:Hp}(R:Rel K H₀ I O H σ env)(s:aG H H1)(h:Val K H₀ O H H1 .un d v):∃O',Rel K H₀ I O' H1 (σ.set i (some v)) (env.set i (some (.bo,d)))∧aQ O H O' H1:=by
 let⟨p,rfl,hp,h0,ho,c⟩:=h;let np:∀a,(∃o,H a=some o)→a≠p:=λa ⟨o,e⟩=>eZ e hp;let wk:∀{N:Qzj}{d:D}{v:V},Rp K N H v d→Rp K (λa=>N a∧a≠p) H1 v d:=λr=>(r.wk λa n e=>⟨n,np a e⟩).keep (.same s);let wz:∀{N:Qzj}{d:D}{q:Addr},Cell K N H q d→Cell K (λa=>N a∧a≠p) H1 q d:=λ{N d q} r=>by
  let⟨o,e,_⟩:=r.some;exact(r.wk λa n e=>⟨n,np a e⟩).keep (.same s) ((s _ _ e).trans e.symm)
 let⟨o,eo,nto⟩:=c.some;refine⟨λa=>O a∨a=p,⟨⟨E5 (λm' d' q=>?_) i (nJ (λe x h m d q=>?_) R.e.sl),?_,?_,?_⟩,?_,?_,?_,?_,?_⟩,?_⟩
 ·cases q;exact⟨rfl,_,rfl,p,rfl,.inr rfl,h0,c.wk λa h _=>⟨λz=>z.elim h.1.1 h.2,h.1.2⟩⟩
 ·let⟨n,v,rfl,z⟩:=h m d q;refine⟨n,v,rfl,?_⟩;cases m
  ·exact(wk z).wk λa h _=>λz=>z.elim h.1 h.2
  ·exact(wk z).wk λa h _=>⟨λz=>z.elim h.1.1 h.2,h.1.2⟩
  ·cases n
  ·let⟨q,rfl,h1,h2,c'⟩:=z;exact⟨q,rfl,.inl h1,h2,(wz c').wk λa h _=>⟨λz=>z.elim h.1.1 h.2,h.1.2⟩⟩
  ·let⟨q,rfl,h1,c'⟩:=z;exact⟨q,rfl,.inl h1,(wz c').wk λa h _=>⟨λz=>z.elim h.1.1 h.2,h.1.2⟩⟩
  ·cases n
  ·let⟨q,qs,aS,e1,e2,h1,h2,h3,h4,h5,h6⟩:=z;exact⟨q,qs,aS,e1,e2,.inl h1,h2,s _ _ h3,h4,λx hx=>⟨.inl (h5 x hx).1,(h5 x hx).2⟩,lh (λx ds _ ⟨xs,a,r⟩=>⟨xs,s _ _ a,((r.wk λa n e=>(⟨n,np a e⟩:(¬O a∧H₀ a=none)∧a≠p)).keep (.same s)).wk λa h _=>⟨λz=>z.elim h.1.1 h.2,h.1.2⟩⟩) h6⟩
  ·cases n
 ·intro a ha;rcases ha with ha|rfl
  ·let⟨o,e⟩:=R.e.od a ha;exact⟨o,s _ _ e⟩
  ·exact⟨o,eo⟩
 ·exactλa o h=>let ⟨o,e⟩:=R.e.hd a o h;⟨o,s _ _ e⟩
 ·intro a u ha e;rcases ha with ha|rfl
  ·exact(R.e.keep s).on a u ha e
  ·rw[eo]at e;cases e;exact nto
 ·exactλa o n h=>s _ _ (R.fr a o n h)
 ·intro a ha;rcases ha with ha|rfl
  ·exact R.ow a ha
  ·exact .inr h0
 ·intro i' d' p' h1 p1;rcases get_set h1 with⟨rfl,q⟩|⟨n1,q1⟩
  ·cases q
  ·rw[eR (λz=>n1 z.symm)]at p1;exact R.ba i' d' p' q1 p1
 ·intro i' j x y q h1 h2 o1 o2 p1 p2;rcases get_set h1 with⟨rfl,q1⟩|⟨n1,q1⟩
  ·rcases get_set h2 with⟨rfl,q2⟩|⟨n2,q2⟩
   ·rfl
   ·exfalso;rw[eR (λz=>n2 z.symm)]at p2;rcases get_set p1 with⟨_,z⟩|⟨z,_⟩
    ·cases z;let⟨_,c'⟩:=R.oY q2 o2 p2;let⟨o',e',_⟩:=c'.some;rw[hp]at e';cases e'
    ·exact z rfl
  ·rcases get_set h2 with⟨rfl,q2⟩|⟨n2,q2⟩
   ·exfalso;rw[eR (λz=>n1 z.symm)]at p1;rcases get_set p2 with⟨_,z⟩|⟨z,_⟩
    ·cases z;let⟨_,c'⟩:=R.oY q1 o1 p1;let⟨o',e',_⟩:=c'.some;rw[hp]at e';cases e'
    ·exact z rfl
   ·rw[eR (λz=>n1 z.symm)]at p1;rw[eR (λz=>n2 z.symm)]at p2;exact R.dj i' j x y q q1 q2 o1 o2 p1 p2
 ·refine⟨λi' j d1 d2 h1 h2=>?_,λi' j d1 x p' q xs h1 p1 h2 o2 p2 e=>?_⟩
  ·rcases get_set h1 with⟨rfl,z⟩|⟨n1,q1⟩
   ·cases z
   ·rcases get_set h2 with⟨rfl,z⟩|⟨n2,q2⟩
    ·cases z
    ·exact R.nd.1 i' j d1 d2 q1 q2
  ·rcases get_set h1 with⟨rfl,z⟩|⟨n1,q1⟩
   ·cases z
   ·rw[eR (λz=>n1 z.symm)]at p1;let⟨qs,aS,_,_,_,e3,_,_,h6⟩:=R.e.nest q1 p1;rw[s _ _ e3]at e;cases e;rcases get_set h2 with⟨rfl,z⟩|⟨n2,q2⟩
    ·rcases get_set p2 with⟨_,z⟩|⟨z,_⟩
     ·cases z;refine⟨(λz=>by rw[z,e3]at hp;cases hp),λz=>?_⟩;let⟨a,ha,ea⟩:=bP.mp z;cases ea;let⟨ds,xs,hx,_⟩:=C2 h6 ha;rw[hp]at hx;cases hx
     ·exact absurd rfl z
    ·rw[eR (λz=>n2 z.symm)]at p2;exact R.nd.2 i' j d1 x p' q _ q1 p1 q2 o2 p2 e3
 ·intro a o h n;exact⟨s a o h,λz=>z.elim n (np a ⟨o,h⟩)⟩
def Rel.give{i:Nat}{x y:M×D}{v:V}{H1:Hp}(R:Rel K H₀ I O H σ env)(s:aG H H1)(h:Val K H₀ O H H1 x.1 x.2 v)(e:nC x=some y):∃O',Rel K H₀ I O' H1 (σ.set i (some v)) (env.set i (some y))∧aQ O H O' H1:=by
 let⟨m,d⟩:=x;unfold nC at e;cases m<;>simp only[Oj]at e
 ·cases e;exact⟨O,(R.keep s).set_plain rfl rfl h,.same s⟩
 ·cases e;exact⟨O,(R.keep s).set_plain rfl rfl h,.same s⟩
 ·cases e;exact R.Z7 s h
 ·split at e
  ·rename_i hi;cases e;exact⟨O,(R.keep s).set_plain rfl rfl (show Rp K _ H1 v d from h.weak.im hi),.same s⟩
  ·cases e
 ·split at e
  ·rename_i hi;cases e;exact⟨O,(R.keep s).set_plain rfl rfl (show Rp K _ H1 v d from h.weak.im hi),.same s⟩
  ·cases e
 ·split at e
  ·rename_i hi;cases e;exact⟨O,(R.keep s).set_plain rfl rfl (show Rp K _ H1 v d from h.weak.im hi),.same s⟩
  ·cases e
 ·split at e
  ·rename_i hi;cases e;exact⟨O,(R.keep s).set_plain rfl rfl (show Rp K _ H1 v d from h.weak.im hi),.same s⟩
  ·cases e
 ·cases e;exact⟨O,(R.keep s).set_plain rfl rfl (show Rp K _ H1 v d from h.cY rfl),.same s⟩
def ax(i:Nat)(f:Qqj):Qqq:=λe=>(f e).bind λx=>(nC x).bind λy=>some (.nx (e.set i (some y)))
def MX{i:Nat}{t:TE}{f:Qqj}(h:JT K t f):JS K (iy t (gW i)) (ax i f):=by
 intro H₀ I O H σ env Ds fl R e q;let⟨x,ex,e⟩:=aw e;let⟨y,ey,e⟩:=aw e;cases e;refine h H₀ O H σ env _ x.1 x.2 R.e ex λv H1 s1 h1=>?_;let⟨O',R',st⟩:=R.give (i:=i) s1 h1 ey;exact q O' H1 _ R' st
def Rel.mut{i:Nat}{m:M}{d d':D}{p:Addr}{o:HO}(R:Rel K H₀ I O H σ env)(hx:env[i]?=some (some (m,d)))(ho:own m=true)(hp:σ[i]?=some (some (.ref p)))
  (c:Cell K (λa=>¬O a∧H₀ a=none) (upd H p o) p d'):Rel K H₀ I O (upd H p o) σ (env.set i (some (m,d')))∧aQ O H O (upd H p o):=by
 let⟨hO,c0⟩:=R.oY hx ho hp;let⟨o0,e0,nt⟩:=c0.some;let kp:∀{N:Qzj},(∀a,N a→¬O a)→Keeps N H (upd H p o):=λw a u h z=>by
  let gi:a≠p:=by
   rintro rfl;rcases z with z|z
   ·exact w _ z hO
   ·rw[e0]at h;cases h;exact nt z
  rw[aI gi];exact h
 let hi:i<env.length:=by
  rcases vN i env.length with h|h
  ·exact h
  ·rw[og h]at hx;cases hx
 let hσ:σ=σ.set i (some (.ref p)):=by
  refine List.ext_getElem? λj=>?_;rw[mR];split
  ·rename_i z;subst z;let hl:i<σ.length:=by rw[←cM R.e.sl];exact hi
   rw[if_pos hl,hp]
  ·rfl
 refine⟨⟨⟨?_,?_,?_,?_⟩,?_,R.ow,?_,?_,?_⟩,?_⟩
 ·
  let base:∀(j:Nat) (e:Qzq) (x:Option V),(env.set i (some (m,d')))[j]?=some e→σ[j]?=some x→∀m d,e=some (m,d)→jH m=true∧∃v,x=some v∧Val K H₀ O HE (upd H p o) m d v:=by
   intro j e x he wA m1 d1 q;subst q;rcases get_set he with⟨rfl,q⟩|⟨nj,q⟩
   ·cases q;rw[hp]at wA;cases wA;refine⟨Xv ho,_,rfl,?_⟩;cases m<;>simp only[own]at ho<;>try (cases ho;done)
    ·let⟨v,hv,n,hm⟩:=R.e.at hx;rw[hp]at hv;cases hv;let⟨p',e,h1,h2,_⟩:=hm;cases e;exact⟨p,rfl,h1,h2,c⟩
    ·exact⟨p,rfl,hO,c⟩
   ·let⟨v,hv,n,hm⟩:=R.e.at q;rw[wA]at hv;cases hv;refine⟨n,v,rfl,?_⟩;let nq:∀{p':Addr},own m1=true→v=.ref p'→p'≠p:=λ{p'} GJ ev z=>by
     subst ev;subst z;exact nj (R.dj j i _ _ p' q hx GJ ho wA hp)
    cases m1
    ·exact Rp.keep (kp λa h=>h) hm
    ·exact Rp.keep (kp λa h=>h.1) hm
    ·cases n
    ·let⟨p',rfl,h1,h2,c'⟩:=hm;exact⟨p',rfl,h1,h2,c'.keep (kp λa h=>h.1) (aI (nq rfl rfl))⟩
    ·let⟨p',rfl,h1,c'⟩:=hm;exact⟨p',rfl,h1,c'.keep (kp λa h=>h.1) (aI (nq rfl rfl))⟩
    ·cases n
    ·let⟨p',qs,aS,rfl,e2,h1,h2,h3,h4,h5,h6⟩:=hm;let⟨z1,z2⟩:=R.nd.2 j i d1 (m,d) p' p _ q wA hx ho hp h3;refine⟨p',qs,aS,rfl,e2,h1,h2,by rw[aI (λz=>z1 z.symm)];exact h3,h4,h5,lh (λx ds hx ⟨xs,a,r⟩=>⟨xs,?_,r.keep (kp λa h=>h.1)⟩) h6⟩;rw[aI (λz=>z2 (bP.mpr ⟨x,hx,by rw[z]⟩))];exact a
    ·cases n
  refine kZ ?_ λj e x h1 h2=>base j e x h1 h2;rw[gd];exact cM R.e.sl
 ·intro a ha;by_cases z:a=p
  ·subst z;exact⟨o,bQ⟩
  ·rw[aI z];exact R.e.od a ha
 ·intro a u h;by_cases z:a=p
  ·subst z;exact⟨o,bQ⟩
  ·rw[aI z];exact R.e.hd a u h
 ·intro a u ha e;by_cases z:a=p
  ·subst z;let⟨o1,e1,n1⟩:=c.some;rw[e]at e1;cases e1;exact n1
  ·rw[aI z]at e;exact R.e.on a u ha e
 ·intro a u n h;let z:a≠p:=by
   rintro rfl;rcases R.ow a hO with⟨i,q⟩|q
   ·exact n i q
   ·rw[h]at q;cases q
  rw[aI z];exact R.fr a u n h
 ·intro i' e' p' h1 p1;rcases get_set h1 with⟨rfl,q⟩|⟨n1,q1⟩
  ·cases q;exact R.ba _ d p' hx p1
  ·exact R.ba i' e' p' q1 p1
 ·intro i' j x y q h1 h2 o1 o2 p1 p2;let f:∀{k:Nat}{x:M×D},(env.set i (some (m,d')))[k]?=some (some x)→own x.1=true→∃x',env[k]?=some (some x')∧own x'.1=true:=λ{k x} h o=>by
   rcases get_set h with⟨rfl,q⟩|⟨_,q⟩
   ·exact⟨_,hx,ho⟩
   ·exact⟨x,q,o⟩
  let⟨x',a1,b1⟩:=f h1 o1;let⟨y',a2,b2⟩:=f h2 o2;exact R.dj i' j x' y' q a1 a2 b1 b2 p1 p2
 ·let g:∀{k:Nat}{d1:D},(env.set i (some (m,d')))[k]?=some (some (.nb,d1))→env[k]?=some (some (.nb,d1)):=λ{k d1} h=>by
   rcases get_set h with⟨rfl,q⟩|⟨_,q⟩
   ·cases q;cases ho
   ·exact q
  refine⟨λi' j d1 d2 h1 h2=>R.nd.1 i' j d1 d2 (g h1) (g h2),λi' j d1 x p' q xs h1 p1 h2 o2 p2 e=>?_⟩;let⟨qs,aS,_,_,_,e3,_⟩:=R.e.nest (g h1) p1;let⟨z1,_⟩:=R.nd.2 i' i d1 (m,d) p' p _ (g h1) p1 hx ho hp e3;rw[aI (λz=>z1 z.symm)]at e;rcases get_set h2 with⟨rfl,z⟩|⟨_,z⟩
  ·cases z;exact R.nd.2 i' j d1 (m,d) p' q xs (g h1) p1 hx ho p2 e
  ·exact R.nd.2 i' j d1 x p' q xs (g h1) p1 z o2 p2 e
 ·intro a u h n;let z:a≠p:=by rintro rfl;exact n hO
  exact⟨by rw[aI z];exact h,n⟩
end
section
variable {K:Qzk}{H H' H₀:Hp}{I:Nat→Qxx}{O O':Qzj}{σ:St}{env:Ev}
def dZ(i:Nat)(e:Ev):Option (M×Qzz):=match e[i]? with
 |some (some (m,.lst ds))=>if own m=true then some (m,ds)else none
 |_=>none
def Lg{i:Nat}{e:Ev}{m:M}{ds:Qzz}(h:dZ i e=some (m,ds)):e[i]?=some (some (m,.lst ds))∧own m=true:=by
 unfold dZ at h;split at h
 ·rename_i e;split at h
  ·cases h;exact⟨e,by assumption⟩
  ·cases h
 ·cases h
theorem Rel.lst{i:Nat}{m:M}{ds:Qzz}(R:Rel K H₀ I O H σ env)(h:dZ i env=some (m,ds)):∃p xs,σ[i]?=some (some (.ref p))∧O p∧H p=some (.lst xs)∧aB K (λa=>¬O a∧H₀ a=none) H xs ds:=by
 let⟨e,o⟩:=Lg h;let⟨v,hv,n,hm⟩:=R.e.at e;cases m<;>simp only[own]at o<;>try (cases o;done)
 ·let⟨p,rfl,h1,h2,xs,c,r⟩:=hm;exact⟨p,xs,hv,h1,c,r⟩
 ·let⟨p,rfl,h1,xs,c,r⟩:=hm;exact⟨p,xs,hv,h1,c,r⟩
theorem aB.upd{xs:List V}{ds:Qzz}{p:Addr}{o:HO}{o0:HO}(hO:O p)(h0:H p=some o0)(nt:¬ia o0)(r:aB K (λa=>¬O a∧H₀ a=none) H xs ds):aB K (λa=>¬O a∧H₀ a=none) (L2.upd H p o) xs ds:=by
 refine r.keep λa u e z=>?_;let gi:a≠p:=by
  rintro rfl;rcases z with z|z
  ·exact z.1 hO
  ·rw[h0]at e;cases e;exact nt z
 rw[aI gi];exact e
def Rel.zK{i:Nat}{m:M}{ds:Qzz}{p:Addr}{xs ys:List V}{es:Qzz}(R:Rel K H₀ I O H σ env)(h:dZ i env=some (m,ds))(hp:σ[i]?=some (some (.ref p)))(hx:H p=some (.lst xs))(r:aB K (λa=>¬O a∧H₀ a=none) H ys es) :
  Rel K H₀ I O (L2.upd H p (.lst ys)) σ (env.set i (some (m,.lst es)))∧aQ O H O (L2.upd H p (.lst ys)):=by
 let⟨e,o⟩:=Lg h;let hO:=(R.oY e o hp).1;exact R.mut e o hp ⟨ys,bQ,r.upd hO hx (λz=>z)⟩
def cE(i:Nat)(f:Qqj):Qqq:=λe=>(f e).bind λx=>if cY x.1 x.2=true then (dZ i e).bind λy=>if y.2.length<sizeLine then some (.nx (e.set i (some (y.1,.lst (y.2++[x.2])))))else none else none
def Z8{i:Nat}{t:TE}{f:Qqj}(h:JT K t f):JS K (rq (wa K "list" uF (iw i) (nF t mI))) (cE i f):=by
 intro H₀ I O H σ env Ds fl R e q;let⟨x,ex,e⟩:=aw e;split at e
 ·rename_i hs;let⟨⟨m,ds⟩,ey,e⟩:=aw e;split at e
  ·rename_i hl;cases e;let⟨p,xs,hp,hO,hx,r⟩:=R.lst ey;refine⟨.ref p,hp,.inl ⟨rfl,xs,.inl (.inl hx)⟩,?_⟩;refine h H₀ O H σ env _ x.1 x.2 R.e ex λv H1 s1 h1=>?_;refine⟨p,xs,v,rfl,rfl,s1 _ _ hx,by rw[r.len];exact hl,?_⟩;let R1:=R.keep s1;let⟨R2,st⟩:=R1.zK (ys:=xs++[v]) (es:=ds++[x.2]) ey hp (s1 _ _ hx) ((r.keep (.same s1)).app (.cons (h1.cY hs) .nil));exact q O _ σ R2 ((aQ.same s1).trans st)
  ·cases e
 ·cases e
def fD(i:Nat)(fk fe:Qqj):Qqq:=λe=>(fe e).bind λx=>(fk e).bind λk=>(pJ k).bind λk=>if cY x.1 x.2=true then (dZ i e).bind λy=>(dh y.2.length k).bind λj=>some (.nx (e.set i (some (y.1,.lst (y.2.set j x.2)))))else none
def VY{i:Nat}{t tk:TE}{f fk:Qqj}(h:JT K t f)(hk:JT K tk fk):JS K (iy t (O9 (iw i) tk Od)) (fD i fk f):=by
 intro H₀ I O H σ env Ds fl R e q;let⟨x,ex,e⟩:=aw e;let⟨k,ek,e⟩:=aw e;let⟨k',ek',e⟩:=aw e;split at e
 ·rename_i hs;let⟨⟨m,ds⟩,ey,e⟩:=aw e;let⟨j,ej,e⟩:=aw e;cases e;let⟨p,xs,hp,hO,hx,r⟩:=R.lst ey;refine h H₀ O H σ env _ x.1 x.2 R.e ex λv H1 s1 h1=>?_;refine⟨.ref p,hp,?_⟩;refine hk H₀ O H1 σ env _ k.1 k.2 (R.keep s1).e ek λw H2 s2 h2=>?_;rw[Dq ek']at h2;let s:=s1.trans s2;refine⟨p,xs,k',j,rfl,h2.int,s _ _ hx,by rw[r.len];exact ej,?_⟩;let⟨R2,st⟩:=(R.keep s).zK (ys:=xs.set j v) (es:=ds.set j x.2) ey hp (s _ _ hx) ((r.keep (.same s)).set ((h1.keep s2).cY hs) j);exact q O _ σ R2 ((aQ.same s).trans st)
 ·cases e
def vx(j i:Nat):Qqq:=λe=>(dZ i e).bind λy=>(y.2[y.2.length-1]?).bind λd=>some (.nx ((e.set i (some (y.1,.lst y.2.dropLast))).set j (some (.fr,d))))
def Z9{i j:Nat}:JS K (iy (zE K "list" Ph (iw i)) (gW j)) (vx j i):=by
 intro H₀ I O H σ env Ds fl R e q;let⟨⟨m,ds⟩,ey,e⟩:=aw e;let⟨d,ed,e⟩:=aw e;cases e;let⟨p,xs,hp,hO,hx,r⟩:=R.lst ey;refine⟨.ref p,hp,.inl ⟨rfl,xs,.inl (.inl hx)⟩,?_⟩;let⟨v,hv,rv⟩:=r.get ed;refine⟨p,xs,v,rfl,rfl,hx,by rw[r.len];exact hv,?_⟩;let⟨R2,st⟩:=R.zK (ys:=xs.dropLast) (es:=ds.dropLast) ey hp hx r.dl;let sU:Rp K (λa=>¬O a∧H₀ a=none) (L2.upd H p (.lst xs.dropLast)) v d:=by
  let z:=aB.upd (o:=.lst xs.dropLast) hO hx (λz=>z) (aB.cons rv .nil);cases z with|cons a _=>exact a
 exact q O _ _ (R2.set_plain (i:=j) (m:=.fr) rfl rfl sU) st
def rV(i:Nat):Qqq:=λe=>(dZ i e).bind λy=>some (.nx (e.set i (some (y.1,.lst y.2.reverse))))
def aac{i:Nat}:JS K (rq (zE K "list" Ka (iw i))) (rV i):=by
 intro H₀ I O H σ env Ds fl R e q;let⟨⟨m,ds⟩,ey,e⟩:=aw e;cases e;let⟨p,xs,hp,hO,hx,r⟩:=R.lst ey;refine⟨.ref p,hp,.inl ⟨rfl,xs,.inl (.inl hx)⟩,p,xs,rfl,rfl,hx,?_⟩;let⟨R2,st⟩:=R.zK (ys:=xs.reverse) (es:=ds.reverse) ey hp hx r.rev;exact q O _ σ R2 st
abbrev aZ(i:Nat)(e:Ev):Ev:=match e[i]? with
 |some (some (.bo,d))=>e.set i (some (.fr,d))
 |_=>e
def bT(i:Nat)(g:Qqq):Qqq:=λe=>g (aZ i e)
set_option tactic.hygienic true in
theorem Rel.aZ{i:Nat}(R:Rel K H₀ I O H σ env):∃O',Rel K H₀ I O' H σ (J.aZ i env)∧aQ O H O' H:=by
 unfold J.aZ;split
 ·rename_i d e;let⟨v,hv,n,p,rfl,hO,h0,c⟩:=R.e.at e;let hi:i<env.length:=by
   rcases vN i env.length with h|h
   ·exact h
   ·rw[og h]at e;cases e
  let W:∀{a:Addr},¬O a→¬(O a∧a≠p):=λh z=>h z.1;refine⟨λa=>O a∧a≠p,⟨⟨?_,λa h=>R.e.od a h.1,R.e.hd,λa o h=>R.e.on a o h.1⟩,R.fr,λa h=>R.ow a h.1,?_,?_,?_⟩,λa o h n=>⟨h,W n⟩⟩
  ·let base:∀(j:Nat) (y:Qzq) (x:Option V),(env.set i (some (.fr,d)))[j]?=some y→σ[j]?=some x→∀m d,y=some (m,d)→jH m=true∧∃v,x=some v∧Val K H₀ (λa=>O a∧a≠p) HE H m d v:=by
    intro j y x hy hx m1 d1 q;subst q;rcases get_set hy with⟨rfl,q⟩|⟨nj,q⟩
    ·cases q;rw[hv]at hx;cases hx;exact⟨rfl,_,rfl,(c.wk λa h _=>(⟨W h.1,h.2⟩:¬(O a∧a≠p)∧H₀ a=none)).rp ⟨λz=>z.2 rfl,h0⟩⟩
    ·let⟨v,iK,n1,hm⟩:=R.e.at q;rw[hx]at iK;cases iK;refine⟨n1,v,rfl,?_⟩;let nq:∀{p':Addr},own m1=true→v=.ref p'→p'≠p:=λ{p'} GJ ev z=>by
      subst ev;subst z;exact nj (R.dj j i _ _ p' q e GJ rfl hx hv)
     cases m1
     ·exact Rp.wk (λa h _=>W h) hm
     ·exact Rp.wk (λa h _=>⟨W h.1,h.2⟩) hm
     ·cases n1
     ·let⟨p',rfl,h1,h2,c'⟩:=hm;exact⟨p',rfl,⟨h1,nq rfl rfl⟩,h2,c'.wk λa h _=>⟨W h.1,h.2⟩⟩
     ·let⟨p',rfl,h1,c'⟩:=hm;exact⟨p',rfl,⟨h1,nq rfl rfl⟩,c'.wk λa h _=>⟨W h.1,h.2⟩⟩
     ·cases n1
     ·let⟨p',qs,aS,rfl,e2,h1,h2,h3,h4,h5,h6⟩:=hm;let⟨z1,z2⟩:=R.nd.2 j i d1 (.bo,d) p' p _ q hx e rfl hv h3;exact⟨p',qs,aS,rfl,e2,⟨h1,λz=>z1 z.symm⟩,h2,h3,h4,λx hx=>⟨⟨(h5 x hx).1,λz=>z2 (bP.mpr ⟨x,hx,by rw[z]⟩)⟩,(h5 x hx).2⟩,lh (λx ds _ ⟨xs,a,r⟩=>⟨xs,a,r.wk λa h _=>⟨W h.1,h.2⟩⟩) h6⟩
     ·cases n1
   refine kZ ?_ λj e x h1 h2=>base j e x h1 h2;rw[gd];exact cM R.e.sl
  ·intro i' d' p' h1 p1;rcases get_set h1 with⟨rfl,z⟩|⟨_,z1⟩
   ·cases z
   ·exact R.ba i' d' p' z1 p1
  ·intro i' j x y q h1 h2 o1 o2 p1 p2;rcases get_set h1 with⟨rfl,z⟩|⟨_,z1⟩
   ·cases z;cases o1
   ·rcases get_set h2 with⟨rfl,z⟩|⟨_,z2⟩
    ·cases z;cases o2
    ·exact R.dj i' j x y q z1 z2 o1 o2 p1 p2
  ·refine⟨λi' j d1 d2 h1 h2=>?_,λi' j d1 x p' q xs h1 p1 h2 o2 p2 e'=>?_⟩
   ·rcases get_set h1 with⟨rfl,z⟩|⟨_,z1⟩
    ·cases z
    ·rcases get_set h2 with⟨rfl,z⟩|⟨_,z2⟩
     ·cases z
     ·exact R.nd.1 i' j d1 d2 z1 z2
   ·rcases get_set h1 with⟨rfl,z⟩|⟨_,z1⟩
    ·cases z
    ·rcases get_set h2 with⟨rfl,z⟩|⟨_,z2⟩
     ·cases z;cases o2
     ·exact R.nd.2 i' j d1 x p' q xs z1 p1 z2 o2 p2 e'
 ·exact⟨O,R,aQ.refl⟩
def aad{i:Nat}{t:TS}{g:Qqq}(h:JS K t g):JS K t (bT i g):=by
 intro H₀ I O H σ env Ds fl R e q;let⟨O',R',st⟩:=R.aZ (i:=i);exact h H₀ I O' H σ _ Ds fl R' e (q.pre st)
def Rp.stp{N:Qzj}{v:V}{d:D}{O2:Qzj}{H2:Hp}(on:∀a o,O a→H a=some o→¬ia o)(st:aQ O H O2 H2)(w:∀a,N a→¬O a)(r:Rp K N H v d):Rp K (λa=>N a∧¬O2 a) H2 v d:=by
 refine(Rp.wk (N':=λa=>N a∧¬O2 a) (λa n ⟨o,e⟩=>⟨n,(st a o e (w a n)).2⟩) r).keep λa o e z=>?_;refine(st a o e ?_).1;rcases z with z|z
 ·exact w a z.1
 ·exactλh=>on a o h e z
structure lD (K:Qzk)(H₀:Hp)(O:Qzj)(J:It)(H:Hp)(m:M)(ds:Qzz):Prop where
 go:∀O2 H2 i,aQ O H O2 H2→i<ds.length→J.go i H2
 ku:∀O2 H2 i x H3,aQ O H O2 H2→i<ds.length→J.ku i H2 x H3→aG H2 H3∧∃d,ds[i]?=some d∧Val K H₀ O2 HE H3 m d x
 stop:∀O2 H2,aQ O H O2 H2→J.stop ds.length H2
abbrev fL:M→Bool
 |.al=>true
 |.fr=>true
 |_=>false
def JI(K:Qzk)(wi:TI)(it:Ev→Option (M×Qzz)):Prop :=
 ∀H₀ O H σ env R m ds,fm K H₀ O H σ env→it env=some (m,ds)→(∀J H',aG H H'→fL m=true→lD K H₀ O J H' m ds→R J H')→wi σ H R
abbrev cf:M→Option M
 |.al=>some .al
 |.fr=>some .fr
 |.un=>some .fr
 |_=>none
def bK(f:Qqj):Ev→Option (M×Qzz):=λe=>(f e).bind λx=>match x.2 with
 |.lst ds=>(cf x.1).map λm=>(m,ds)
 |_=>none
def Lh{m n:M}{ds:Qzz}{v:V}{Hb:Hp}(e:cf m=some n)(h:Val K H₀ O Hb H m (.lst ds) v):fL n=true∧∃a xs,v=.ref a∧((Rd H a (.lst xs)∧¬O a)∨AU K a xs)∧aB K (NM H₀ O n) H xs ds:=by
 cases m<;>simp only[cf]at e<;>cases e
 ·cases h with
  |lst r n q=>exact⟨rfl,_,_,rfl,.inl ⟨r,n⟩,q⟩
  |lstK r q=>exact⟨rfl,_,_,rfl,.inr r,q⟩
 ·cases h with
  |lst r n q=>exact⟨rfl,_,_,rfl,.inl ⟨r,n.1⟩,q⟩
  |lstK r q=>exact⟨rfl,_,_,rfl,.inr r,q⟩
 ·let⟨p,rfl,_,_,h2,xs,q,r⟩:=h;exact⟨rfl,_,_,rfl,.inl ⟨.inl q,h2⟩,r.wk λa h _=>h.1⟩
def NM.no{n:M}{a:Addr}(e:fL n=true)(h:NM H₀ O n a):¬O a:=by
 cases n<;>first|exact h|exact h.1|cases e
def Dr{n:M}{d:D}{v:V}{O2:Qzj}{H2:Hp}(e:fL n=true)(on:∀a o,O a→H a=some o→¬ia o)(st:aQ O H O2 H2)(r:Rp K (NM H₀ O n) H v d):Val K H₀ O2 HE H2 n d v:=by
 let z:=Rp.stp on st (λa h=>NM.no e h) r;cases n
 ·exact z.wk λa h _=>h.2
 ·exact z.wk λa h _=>⟨h.2,h.1.2⟩
 ·cases e
 ·cases e
 ·cases e
 ·cases e
 ·cases e
 ·cases e
def U5{a:Addr}{xs:List V}{ds:Qzz}{n:M}(e:fL n=true)(on:∀a o,O a→H a=some o→¬ia o)(hr:(Rd H a (.lst xs)∧¬O a)∨AU K a xs)(r:aB K (NM H₀ O n) H xs ds):lD K H₀ O (Gd K a) H n ds:=by
 let st:∀{O2:Qzj}{H2:Hp},aQ O H O2 H2→b0 K H2 a xs:=λ{O2 H2} s=>by
  rcases hr with⟨h|⟨o,h⟩,ha⟩|h
  ·exact .inl (.inl (s _ _ h ha).1)
  ·exact .inl (.inr ⟨o,(s _ _ h ha).1⟩)
  ·exact .inr h
 refine⟨λO2 H2 i s hi=>?_,λO2 H2 i x H3 s hi y=>?_,λO2 H2 s=>⟨xs,st s,by rw[r.len];exact aW _⟩⟩
 ·exact⟨xs,xs[i]'(by rw[r.len];exact hi),st s,by simp⟩
 ·let⟨rfl,y⟩:=y;let y:=y xs (st s);let⟨v,hv,rv⟩:=r.get (i:=i) (d:=ds[i]) (by simp[hi]);rw[y]at hv;cases hv;exact⟨aG.refl _,ds[i],by simp[hi],Dr e on s rv⟩
def Xy{t:TE}{f:Qqj}(h:JT K t f):JI K (Eb K t) (bK f):=by
 intro H₀ O H σ env R m ds Re e q;let⟨⟨m0,d0⟩,ex,e⟩:=aw e;cases d0<;>simp only at e<;>try (cases e;done)
 cases em:cf m0 with
 |none=>rw[em]at e;cases e
 |some n =>
  rw[em]at e;cases e;refine h H₀ O H σ env _ _ _ Re ex λv H1 s1 h1=>?_;let⟨e1,a,xs,rfl,hr,r⟩:=Lh em h1;exact⟨a,rfl,⟨xs,hr.elim (λz=>.inl z.1) .inr⟩,q _ H1 s1 e1 (U5 e1 (Re.keep s1).on hr r)⟩
def VZ{a:Addr}{xs:List V}{ds:Qzz}{n:M}(e:fL n=true)(on:∀a o,O a→H a=some o→¬ia o)(hr:bC K H a xs)(r:aB K (NM H₀ O n) H xs ds):lD K H₀ O (Ge K a) H n ds:=by
 let st:∀{O2:Qzj}{H2:Hp},aQ O H O2 H2→bC K H2 a xs:=λ{O2 H2} s=>by
  rcases hr with h|h
  ·exact .inl (s _ _ h λz=>on _ _ z h trivial).1
  ·exact .inr h
 refine⟨λO2 H2 i s hi=>?_,λO2 H2 i x H3 s hi y=>?_,λO2 H2 s=>⟨xs,st s,by rw[r.len];exact aW _⟩⟩
 ·exact⟨xs,xs[i]'(by rw[r.len];exact hi),st s,by simp⟩
 ·let⟨rfl,y⟩:=y;let y:=y xs (st s);let⟨v,hv,rv⟩:=r.get (i:=i) (d:=ds[i]) (by simp[hi]);rw[y]at hv;cases hv;exact⟨aG.refl _,ds[i],by simp[hi],Dr e on s rv⟩
def Q5(f:Qqj):Ev→Option (M×Qzz):=λe=>(f e).bind λx=>match x.2 with
 |.tup ds=>(cf x.1).map λm=>(m,ds)
 |_=>none
def aae{t:TE}{f:Qqj}(h:JT K t f):JI K (EB K t) (Q5 f):=by
 intro H₀ O H σ env R m ds Re e q;let⟨⟨m0,d0⟩,ex,e⟩:=aw e;cases d0<;>simp only at e<;>try (cases e;done)
 cases em:cf m0 with
 |none=>rw[em]at e;cases e
 |some n =>
  rw[em]at e;cases e;refine h H₀ O H σ env _ _ _ Re ex λv H1 s1 h1=>?_;let⟨a,xs,rfl,hr,r⟩:=h1.tup;let e1:bf m0=m∧fL m=true:=by clear ex h1 r;cases m0<;>cases em<;>exact⟨rfl,rfl⟩
  rw[e1.1]at r;exact⟨a,rfl,⟨xs,hr⟩,q _ H1 s1 e1.2 (VZ e1.2 (Re.keep s1).on hr r)⟩
abbrev cu(lo:Int)(n:Nat):Qzz:=(List.range n).map λ(k:Nat)=>.int (lo+(k:Int))
def Ki{lo:Int}{n:Nat}:lD K H₀ O (vZ lo n) H .fr (cu lo n):=by
 let l:(cu lo n).length=n:=by simp[cu]
 refine⟨λO2 H2 i s hi=>by rw[l]at hi;exact hi,λO2 H2 i x H3 s hi y=>?_,λO2 H2 s=>by rw[l];exact aW n⟩;let⟨rfl,rfl⟩:=y;rw[l]at hi;exact⟨aG.refl _,.int (lo+i),by simp[cu,hi],Rp.int _⟩
def AX:(2:Int)^62=4611686018427387904:=by decide
def cq(fs:Qqz):Ev→Option (M×Qzz):=λe=>(fs e).bind λl=>match l with
 |[(_,.int j)]=>if -4611686018427387904≤j∧j<4611686018427387904 then some (.fr,cu 0 j.toNat)else none
 |_=>none
def Xz{t:TA}{fs:Qqz}(h:iI K t fs):JI K (N9 t) (cq fs):=by
 intro H₀ O H σ env R m ds Re e q;let⟨l,el,e⟩:=aw e;split at e
 ·split at e
  ·rename_i hj;cases e;refine h H₀ O H σ env _ _ Re el λvs H1 s1 h1=>?_;let⟨v,rfl,hv⟩:=h1.one;obtain rfl:=hv.int;exact⟨_,rfl,by rw[AX];exact hj.1,by rw[AX];exact hj.2,q _ H1 s1 rfl Ki⟩
  ·cases e
 ·cases e
def vy(fs:Qqz):Ev→Option (M×Qzz):=λe=>(fs e).bind λl=>match l with
 |[(_,.int i),(_,.int j)]=>if -4611686018427387904≤i∧i<4611686018427387904∧-4611686018427387904≤j∧j<4611686018427387904 then some (.fr,cu i (j-i).toNat)else none
 |_=>none
def XA{t:TA}{fs:Qqz}(h:iI K t fs):JI K (Oa t) (vy fs):=by
 intro H₀ O H σ env R m ds Re e q;let⟨l,el,e⟩:=aw e;split at e
 ·split at e
  ·rename_i hj;cases e;refine h H₀ O H σ env _ _ Re el λvs H1 s1 h1=>?_;let⟨v,w,rfl,hv,hw⟩:=h1.two;obtain rfl:=hv.int;obtain rfl:=hw.int;exact⟨_,_,rfl,by rw[AX];exact hj,q _ H1 s1 rfl Ki⟩
  ·cases e
 ·cases e
end
section
variable {K:Qzk}{H H' H₀:Hp}{I:Nat→Qxx}{O O':Qzj}{σ:St}{env:Ev}
def JG(K:Qzk)(g:TG)(fg:M×D→Ev→Option Ev):Prop :=
 ∀H₀ I O H σ env x v env' Q,Rel K H₀ I O H σ env→fL (Prod.fst x)=true→Val K H₀ O HE H (Prod.fst x) x.2 v→fg x env=some env'→(∀σ',Rel K H₀ I O H σ' env'→Q σ' H)→g v σ H Q
def sW(K:Qzk)(g:i3)(fg:M→Qzz→Ev→Option Ev):Prop :=
 ∀H₀ I O H σ env m ds vs env' Q,Rel K H₀ I O H σ env→fL m=true→aB K (NM H₀ O m) H vs ds→fg m ds env=some env'→(∀σ',Rel K H₀ I O H σ' env'→Q σ' H)→g vs σ H Q
abbrev gN(i:Nat):M×D→Ev→Option Ev:=λx e=>some (e.set i (some x))
def XB{i:Nat}:JG K (gW i) (gN i):=by
 intro H₀ I O H σ env x v env' Q R hm hv e q;cases e;let⟨m,d⟩:=x;exact q _ (R.set_plain (by cases m<;>first|rfl|cases hm) (by cases m<;>first|rfl|cases hm) hv)
abbrev dX:M→Qzz→Ev→Option Ev:=λ_ ds e=>match ds with
 |[]=>some e
 |_=>none
abbrev bR(f:M×D→Ev→Option Ev)(g:M→Qzz→Ev→Option Ev):M→Qzz→Ev→Option Ev:=λm ds e=>match ds with
 |d::r=>(f (m,d) e).bind λe'=>g m r e'
 |[]=>none
def XC:sW K Ez dX:=by
 intro H₀ I O H σ env m ds vs env' Q R hm hv e q;cases hv with
 |nil=>cases e;exact⟨rfl,q _ R⟩
 |cons=>cases e
def V0{g:TG}{gs:i3}{f:M×D→Ev→Option Ev}{fs:M→Qzz→Ev→Option Ev}(h:JG K g f)(hs:sW K gs fs):sW K (y6 g gs) (bR f fs):=by
 intro H₀ I O H σ env m ds vs env' Q R hm hv e q;cases hv with
 |nil=>cases e
 |@cons v d vs ds hv r =>
  let⟨e',e1,e⟩:=aw e;refine⟨v,vs,rfl,?_⟩;let iK:Val K H₀ O HE H m d v:=by cases m<;>first|exact hv|cases hm
  exact h H₀ I O H σ env (m,d) v e' _ R hm iK e1 λσ' R'=>hs H₀ I O H σ' e' m ds vs env' Q R' hm r e q
def gT(n:Nat)(f:M→Qzz→Ev→Option Ev):M×D→Ev→Option Ev:=λx e=>match x.2 with
 |.tup ds=>if ds.length=n then f (bf x.1) ds e else none
 |_=>none
def aaf{n:Nat}{gs:i3}{fs:M→Qzz→Ev→Option Ev}(hs:sW K gs fs):JG K (EA K n gs) (gT n fs):=by
 intro H₀ I O H σ env x v env' Q R hm hv e q;let⟨m,d⟩:=x;cases d<;>simp only[gT]at e<;>try (cases e;done)
 split at e
 ·rename_i hl;let⟨a,xs,rfl,m8,r⟩:=hv.tup;exact⟨a,xs,rfl,m8,by rw[r.len];exact hl,hs H₀ I O H σ env (bf m) _ xs env' Q R (by cases m<;>first|rfl|cases hm) r e q⟩
 ·cases e
def gL(n:Nat)(f:M→Qzz→Ev→Option Ev):M×D→Ev→Option Ev:=λx e=>match x.2 with
 |.lst ds=>if ds.length=n then f (bf x.1) ds e else none
 |_=>none
abbrev E6:M→M
 |.un=>.fr
 |m=>m
def pM(fg:M×D→Ev→Option Ev)(f:Qqj):Qqq:=λe=>(f e).bind λx=>if fL (E6 x.1)=true then (fg (E6 x.1,x.2) e).bind λe'=>some (.nx e')else none
def aag{t:TE}{g:TG}{f:Qqj}{fg:M×D→Ev→Option Ev}(h:JT K t f)(hg:JG K g fg):JS K (iy t g) (pM fg f):=by
 intro H₀ I O H σ env Ds fl R e q;let⟨⟨m,d⟩,ex,e⟩:=aw e;split at e
 ·rename_i hm;let⟨e',e1,e⟩:=aw e;cases e;refine h H₀ O H σ env _ m d R.e ex λv H1 s1 h1=>?_;refine hg H₀ I O H1 σ env _ v e' _ (R.keep s1) hm ?_ e1 λσ' R'=>q O H1 σ' R' (aQ.same s1);cases m
  ·exact h1
  ·exact h1
  ·exact h1.cY rfl
  ·cases hm
  ·cases hm
  ·cases hm
  ·cases hm
  ·cases hm
 ·cases e
abbrev forL(g:M×D→Ev→Option Ev)(b:Qqq)(m:M):Qzz→Qqq
 |[],e=>some (.nx e)
 |d::ds,e=>(g (m,d) e).bind λe1=>(b e1).bind λr=>match r with
  |.nx e2=>forL g b m ds e2
  |.ct e2=>forL g b m ds e2
  |.bk e2=>some (.nx e2)
  |.rt e2 m' d'=>some (.rt e2 m' d')
def aU(it:Ev→Option (M×Qzz))(g:M×D→Ev→Option Ev)(b:Qqq):Qqq:=λe=>(it e).bind λx=>forL g b x.1 x.2 e
def aah{wi:TI}{g:TG}{tb:TS}{it:Ev→Option (M×Qzz)}{fg:M×D→Ev→Option Ev}{b:Qqq}(hi:JI K wi it)(hg:JG K g fg)(hb:JS K tb b):JS K (pF wi g tb) (aU it fg b):=by
 intro H₀ I O H σ env Ds fl R e q;let⟨⟨m,ds⟩,ei,e⟩:=aw e;refine hi H₀ O H σ env _ m ds R.e ei λJ H1 s1 hm ok=>?_;let q1:=q.pre (aQ.same s1);refine⟨λi n σ2 H2=>∃O2 dQ,Rel K H₀ I O2 H2 σ2 dQ∧aQ O H1 O2 H2∧i≤ds.length∧n=ds.length-i∧forL fg b m (ds.drop i) dQ=some fl,⟨_,O,env,R.keep s1,aQ.refl,jE _,rfl,e⟩,?_⟩;rintro i n σ2 H2 ⟨O2,dQ,R2,st,hle,rfl,ef⟩;by_cases aX:i<ds.length
 ·refine .inr ⟨ok.go O2 H2 i st aX,λσ' H'=>∃O2 dQ,Rel K H₀ I O2 H' σ' dQ∧aQ O H1 O2 H'∧forL fg b m (ds.drop (i+1)) dQ=some fl,?_,?_⟩
  ·rintro σ' H' ⟨O3,E7,R3,bG,GK⟩;exact⟨ds.length-(i+1),by omega,O3,E7,R3,bG,aX,rfl,GK⟩
  ·intro x H3 y;let⟨s3,d,hd,hv⟩:=ok.ku O2 H2 i x H3 st aX y;let wB:ds.drop i=d::ds.drop (i+1):=by
    rw[F3 aX];rw[dC aX]at hd;cases hd;rfl
   rw[wB]at ef;simp only[forL]at ef;let⟨e1,g1,ef⟩:=aw ef;let⟨r,br,ef⟩:=aw ef;refine hg H₀ I O2 H3 σ2 dQ (m,d) x e1 _ (R2.keep s3) hm hv g1 λσ4 R4=>?_;let m9:=st.trans (aQ.same (O:=O2) s3);refine hb H₀ I O2 H3 σ4 e1 _ r R4 br ?_;cases r with
   |nx e2=>exactλO5 H5 σ5 R5 fP=>⟨O5,e2,R5,m9.trans fP,ef⟩
   |ct e2=>exactλO5 H5 σ5 R5 fP=>⟨O5,e2,R5,m9.trans fP,ef⟩
   |bk e2=>cases ef;exact(q1.pre m9)
   |rt e2 m' d'=>cases ef;exact(q1.pre m9)
 ·let hi:i=ds.length:=by omega
  subst hi;rw[F4]at ef;cases ef;exact .inl ⟨ok.stop O2 H2 st,q1 O2 H2 σ2 R2 st⟩
abbrev dI(c:Qqx)(b:Qqq):Nat→Qqq
 |0,_=>none
 |n+1,e=>(c e).bind λk=>if k=true then (b e).bind λr=>(match r with
  |.nx e2=>dI c b n e2
  |.ct e2=>dI c b n e2
  |.bk e2=>some (.nx e2)
  |.rt e2 m' d'=>some (.rt e2 m' d'))else some (.nx e)
theorem xX{c:Qqx}{b:Qqq}{fl:Fl}:∀{n k:Nat}{e:Ev},n≤k→dI c b n e=some fl→dI c b k e=some fl
 |0,_,_,_,h=>by cases h
 |n+1,0,_,h,_=>by omega
 |n+1,k+1,e,hk,h=>by
  simp only[dI]at h ⊢;let⟨x,ex,h⟩:=aw h;rw[ex,An];cases x with
  |false=>exact h
  |true =>
   rw[if_pos rfl]at h ⊢;let⟨r,er,h⟩:=aw h;rw[er,An];cases r with
   |nx e2=>exact xX (by omega) h
   |ct e2=>exact xX (by omega) h
   |bk e2=>exact h
   |rt e2 m' d'=>exact h
open Classical in
def ip(c:Qqx)(b:Qqq):Qqq:=λe=>if h:∃n fl,dI c b n e=some fl then some (Classical.choose (vO h))else none
def CW{c:Qqx}{b:Qqq}{fl:Fl}{n:Nat}{e:Ev}(h:dI c b n e=some fl):ip c b e=some fl:=by
 let hx:∃n fl,dI c b n e=some fl:=⟨n,fl,h⟩;unfold ip;rw[dif_pos hx];let s:=vO (vO hx);let a:=xX (Nat.le_max_left n (Classical.choose hx)) h;let b':=xX (Nat.le_max_right n (Classical.choose hx)) s;rw[a]at b';exact b'.symm
def Uy{c:Qqx}{b:Qqq}{fl:Fl}{e:Ev}(h:ip c b e=some fl):∃n,dI c b n e=some fl:=by
 unfold ip at h;split at h
 ·rename_i hx;cases h;exact⟨_,vO (vO hx)⟩
 ·cases h
def V1{c:TT}{tb:TS}{fc:Qqx}{b:Qqq}(hc:fS K c fc)(hb:JS K tb b):JS K (DT c tb) (ip fc b):=by
 intro H₀ I O H σ env Ds fl R e q;let⟨n,e⟩:=Uy e;refine⟨λn σ2 H2=>∃O2 dQ,Rel K H₀ I O2 H2 σ2 dQ∧aQ O H O2 H2∧dI fc b n dQ=some fl,⟨n,O,env,R,aQ.refl,e⟩,?_⟩;rintro n σ2 H2 ⟨O2,dQ,R2,st,ef⟩;cases n with
 |zero=>cases ef
 |succ n =>
  simp only[dI]at ef;let⟨k,ek,ef⟩:=aw ef;refine hc H₀ O2 H2 σ2 dQ _ k R2.e ek λH3 s3=>?_;let bG:=st.trans (aQ.same (O:=O2) s3);cases k with
  |false =>
   rw[if_neg bx]at ef ⊢;cases ef;exact q O2 H3 σ2 (R2.keep s3) bG
  |true =>
   rw[if_pos rfl]at ef ⊢;let⟨r,er,ef⟩:=aw ef;refine⟨λσ' H'=>∃O2 dQ,Rel K H₀ I O2 H' σ' dQ∧aQ O H O2 H'∧dI fc b n dQ=some fl,λσ' H' ⟨O3,e3,R3,s3,f3⟩=>⟨n,Nat.lt_succ_self n,O3,e3,R3,s3,f3⟩,?_⟩;refine hb H₀ I O2 H3 σ2 dQ _ r (R2.keep s3) er ?_;cases r with
   |nx e2=>exactλO5 H5 σ5 R5 fP=>⟨O5,e2,R5,bG.trans fP,ef⟩
   |ct e2=>exactλO5 H5 σ5 R5 fP=>⟨O5,e2,R5,bG.trans fP,ef⟩
   |bk e2=>cases ef;exact(q.pre bG)
   |rt e2 m' d'=>cases ef;exact(q.pre bG)
def zc(K:Qzk)(H H':Hp):M→D→V→Prop
 |.un,d,v=>∃p,v=.ref p∧H p=none∧Cell K (λa=>H a=none∧a≠p) H' p d
 |.fr,d,v=>Rp K (λa=>H a=none) H' v d
 |.ut,d,v=>fj K (λq=>H q=none) H' d v
 |_,_,_=>False
def qm(K:Qzk)(n:Nat)(F:Qqk):Sp:=λvs H Q _=>vs.length=n∧∃ds m d,aB K (λ_=>True) H vs ds∧F ds=some (m,d)∧∀v H',aG H H'→zc K H H' m d v→Q v H'
def out:Fl→Qzq
 |.nx _=>some (.fr,.non)
 |.rt _ .un d=>some (.un,d)
 |.rt _ .bo d=>some (.un,d)
 |.rt _ .fr d=>some (.fr,d)
 |.rt _ .rb d=>some (.fr,d)
 |.rt _ .nb d=>some (.fr,d)
 |.rt _ .ut d=>some (.ut,d)
 |.rt _ .al d=>if d.cB=true then some (.fr,d)else none
 |_=>none
def fn(L:Nat)(g:Qqq):Qqk:=λds=>(g (ds.map (λd=>some (.al,d))++List.replicate (L-ds.length) none)).bind out
def U6{vs:List V}{ds:Qzz}(r:aB K (λ_=>True) H vs ds)(k:Nat):Paired (λ(e:Qzq) (x:Option V)=>∀m d,e=some (m,d)→jH m=true∧∃v,x=some v∧Val K H (λ_=>False) HE H m d v) (ds.map (λd=>some (.al,d))++List.replicate k none) (vs.map some++List.replicate k none):=by
 let rep:∀k,Paired (λ(e:Qzq) (x:Option V)=>∀m d,e=some (m,d)→jH m=true∧∃v,x=some v∧Val K H (λ_=>False) HE H m d v) (List.replicate k none) (List.replicate k none):=λk=>by
  induction k with
  |zero=>exact .nil
  |succ k ih=>exact .cons (λm d e=>nomatch e) ih
 let go:∀{vs:List V}{ds:Qzz},aB K (λ_=>True) H vs ds→Paired (λ(e:Qzq) (x:Option V)=>∀m d,e=some (m,d)→jH m=true∧∃v,x=some v∧Val K H (λ_=>False) HE H m d v) (ds.map (λd=>some (.al,d))++List.replicate k none) (vs.map some++List.replicate k none):=by
  intro vs ds
  induction vs generalizing ds with
  |nil=>intro r;cases r;exact rep k
  |cons v vs ih=>intro r;cases r with|cons h r=>exact .cons (λm d e=>by cases e;exact⟨rfl,v,rfl,h.wk λ_ _ _ z=>z⟩) (ih r)
 exact go r
def U7{ds:Qzz}{k i:Nat}{d:D}(h:(ds.map (λd=>some (M.al,d))++List.replicate k none)[i]?=some (some (M.bi,d))):False:=by
 let hm:=dO h;rcases iD.mp hm with z|z
 ·let⟨d,_,e⟩:=bP.mp z;cases e
 ·have:=Ao z;cases this
def IZ{ds:Qzz}{k i:Nat}{d:D}(h:(ds.map (λd=>some (M.al,d))++List.replicate k none)[i]?=some (some (M.nb,d))):False:=by
 let hm:=dO h;rcases iD.mp hm with z|z
 ·let⟨d,_,e⟩:=bP.mp z;cases e
 ·have:=Ao z;cases this
def Li{ts:TS}{g:Qqq}{n:Nat}{N:Qjz}{vs:List V}{Q:VK}{E:XK}(h:JS K ts g)(hs:qm K n (fn N.length g) vs H Q E):ts { nx:=λ_ H'=>Q .non H',rt:=Q } (L2.start N vs) H:=by
 let⟨hl,ds,m,d,r,e,q⟩:=hs;let⟨fl,ef,eo⟩:=aw e;let R:Rel K H (λ_=>none) (λ_=>False) H (L2.start N vs) (ds.map (λd=>some (.al,d))++List.replicate (N.length-ds.length) none) :=
  ⟨⟨by unfold L2.start;rw[r.len];exact U6 r _,λ_ z=>z.elim,λa o e=>⟨o,e⟩,λ_ _ z=>z.elim⟩,λa o _ e=>e,λ_ z=>z.elim,λi d p h1=>(U7 h1).elim,(λi j x y p h1 h2 o1 o2=>by
   exfalso;let k:∀{i:Nat}{x:M×D},(ds.map (λd=>some (M.al,d))++List.replicate (N.length-ds.length) none)[i]?=some (some x)→x.1=.al:=λ{i x} h=>by
    let hm:=dO h;rcases iD.mp hm with z|z
    ·let⟨d,_,e⟩:=bP.mp z;cases e;rfl
    ·have:=Ao z;cases this
   rw[k h1]at o1;cases o1),⟨λi j d d' h1=>(IZ h1).elim,λi j d x p q xs h1=>(IZ h1).elim⟩⟩
 refine h H (λ_=>none) (λ_=>False) H _ _ _ fl R ef ?_;cases fl with
 |nx e'=>cases eo;exactλO' H' σ' R' st=>q .non H' (λa o e=>R'.fr a o (λ_ z=>nomatch z) e) Rp.non
 |bk e'=>cases eo
 |ct e'=>cases eo
 |rt e' m' d' =>
  intro O' H' σ' v R' st hv;let sm:aG H H':=λa o e=>R'.fr a o (λ_ z=>nomatch z) e;cases m'<;>simp only[out]at eo
  ·split at eo
   ·rename_i hi;cases eo;exact q v H' sm (show Rp K _ H' v d from hv.weak.im hi)
   ·cases eo
  ·cases eo;exact q v H' sm (show Rp K _ H' v d from Rp.wk (λa h _=>h.2) hv)
  ·cases eo;let⟨p,rfl,_,h0,_,c⟩:=hv;exact q _ H' sm ⟨p,rfl,h0,c.wk λa h _=>⟨h.1.2,h.2⟩⟩
  ·cases eo;let⟨p,rfl,hO,h0,c⟩:=hv;exact q _ H' sm ⟨p,rfl,h0,c.wk λa h _=>⟨h.2,λz=>h.1 (z▸hO)⟩⟩
  ·cases eo
  ·cases eo;exact q v H' sm (show Rp K _ H' v d from hv)
  ·cases eo;exact q v H' sm (show Rp K _ H' v d from jt.rp (λ_ z=>z) hv)
  ·cases eo;exact q v H' sm (show fj K _ H' d v from fj.wk (λq z=>z.2.1) hv)
abbrev aC(F:Qqk)(fs:Qqz):Qqj:=λe=>(fs e).bind λay=>F (ay.map (·.2))
def Lj{m:M}{d:D}{v:V}(od:∀a,O a→∃o,H a=some o)(hd:∀a o,H₀ a=some o→∃o',H a=some o')(h:zc K H H' m d v):Val K H₀ O H H' m d v:=by
 cases m<;>try exact h.elim
 ·exact Rp.wk (λa h _=>⟨iN od h,k5 hd h⟩) h
 ·let⟨p,rfl,hp,c⟩:=h;exact⟨p,rfl,hp,k5 hd hp,iN od hp,c.wk λa h _=>⟨⟨iN od h.1,k5 hd h.1⟩,h.2⟩⟩
 ·exact fj.wk (λq z=>⟨z,k5 hd z,iN od z⟩) h
def XD{n:Nat}{F:Qqk}{ta:TA}{fs:Qqz}{E:XK}(ha:iI K ta fs)(hl:∀e ay,fs e=some ay→ay.length=n):JT K (nG (qm K n F) [] E ta) (aC F fs):=by
 intro H₀ O H σ env Q m d R h q;let⟨ay,e,h⟩:=aw h;refine ha H₀ O H σ env _ ay R e λvs H1 s1 h1=>?_;let R1:=R.keep s1;rw[sj];refine⟨by rw[←cM h1];exact hl _ _ e,ay.map (·.2),m,d,h1.iH (λmd hm v hv=>hv.weak),h,λv H2 s2 h2=>?_⟩;exact q v H2 (s1.trans s2) ((Lj R1.od R1.hd h2).hb λa z=>s1.free z)
end
section
variable {K:Qzk}{H H' H₀:Hp}{O O':Qzj}{σ:St}{env:Ev}
abbrev fq:M×D→Qzq
 | (_,.int i)=>some (.fr,.int (-i))
 |_=>none
abbrev nV:M×D→Qzq
 | (_,.int i)=>some (.fr,.int (Builtin.bitNot i))
 |_=>none
def aai:JU K (rU λi=>.int (-i)) fq:=by
 intro H₀ O H x a Q m d _ _ h1 h q;let⟨ma,da⟩:=a;cases da<;>cases h;exact⟨_,h1.int,q _ H (aG.refl H) jT⟩
def aaj:JU K (rU λi=>.int (Builtin.bitNot i)) nV:=by
 intro H₀ O H x a Q m d _ _ h1 h q;let⟨ma,da⟩:=a;cases da<;>cases h;exact⟨_,h1.int,q _ H (aG.refl H) jT⟩
def gX:=wx Builtin.bitAnd
def pN:=wx Builtin.bitOr
def XE:JR K (fQ λi j=>.int (Builtin.bitAnd i j)) gX:=za
def aak:JR K (fQ λi j=>.int (Builtin.bitOr i j)) pN:=za
def Ol(i j:Int):Prop:=0<j∧j<1606938044258990275541962092341162602522202993782792835301376
abbrev cL:=gI (λ_ j=>0<j∧j<1606938044258990275541962092341162602522202993782792835301376) (· / ·)
def XF:JR K (rI Ol λi j=>.int (i/j)) cL:=rQ λ_ _ h=>h
theorem log2_lt{n:Nat}(h:n<2^200):n.log2<9000:=by
 rcases Nat.eq_zero_or_pos n with rfl|h0
 ·decide
 ·exact Nat.lt_trans ((Nat.log2_lt (by omega)).mpr h) (by decide)
def V2{X:Cx}:bO X (binaryOp .FloorDiv) (rI Ol λi j=>.int (i/j)):=sM λi j _ _ _ _ _ hc q=>by
 let e:i/j=i.fdiv j:=(Qq i (Int.le_of_lt hc.1)).symm;rw[e]at q;let h1:=hc.1;let h2:=hc.2;let hl:j.natAbs<2^200:=by
  let e2:(2:Nat)^200=1606938044258990275541962092341162602522202993782792835301376:=by decide
  rw[e2];omega
 exact PyProof.Rows.floordiv_int (Int.ne_of_gt hc.1) q (.inl (PyProof.noPylong_of_log2 (log2_lt hl)))
def XG{X:Cx}:bO X (binaryOp .Add) (zb X.K):=by
 intro pins s σ H x y v u Q I rx ry h;let⟨l,b,xs,zs,rfl,rfl,hl,hb,hz,q⟩:=h;cases (show v=Value.ref l from rx);cases (show u=Value.ref b from ry);let⟨its,r,pl,_⟩:=I.list hl;let⟨vo,r2,pm,_⟩:=I.list hb;let⟨⟨cls,dd,data,sl⟩,ho,hc,n,hd⟩:=pl.isList;let⟨⟨adA,AG,data2,sN⟩,kC,iF,n2,hd2⟩:=pm.isList;simp only at hc hd iF hd2;subst hc hd iF hd2;let ea:its.toArray++vo.toArray=(its++vo).toArray:=by simp
 let e1:=r.length;let e2:=r2.length;refine z9 ⟨_,ho,rfl⟩ ⟨_,kC,rfl⟩ noFill_list_add seq_list_add PySem.F.slot_list_add PySem.F.entry_list_add (PySem.F.args_list_add_2 _ _) (PyProof.Rows.list_addW l b its.toArray vo.toArray n n2 dd AG sl sN (by rw[gE,gE];omega)) ⟨ho,kC,?_⟩;rw[ea];exact⟨.ref _,_,I.adD (t':=s.toks) (r.append r2) (by rw[fw];omega),rfl,q _ I.fresh⟩
def V3{X:Cx}(h:X.K=K):bO X (binaryOp .Add) (zb K):=by subst h;exact XG
def V4{r r':R2}{g g':M×D→M×D→Qzq}{ta tb tc:TE}{fa fb fc:Qqj}(hr:JR K r g)(hr':JR K r' g')(ha:JT K ta fa)(hb:JT K tb fb)(hc:JT K tc fc):JT K (MA r r' ta tb tc) (nB g g' fa fb fc):=by
 intro H₀ O H σ env Q m d R h q;let⟨a,ea,h⟩:=aw h;let⟨b,eb,h⟩:=aw h;let⟨z,ez,h⟩:=aw h;let⟨k,ek,h⟩:=aw h;refine ha H₀ O H σ env _ a.1 a.2 R ea λx H1 s1 h1=>?_;refine hb H₀ O H1 σ env _ b.1 b.2 (R.keep s1) eb λy H2 s2 h2=>?_;let R2:=(R.keep s1).keep s2;refine hr H₀ O H2 x y a b _ z.1 z.2 R2.od R2.hd (h1.keep s2).h0 h2.h0 ez λv H3 s3 h3=>?_;rw[qW ek]at h3;refine⟨k,h3.bl,?_⟩;cases k with
 |false =>
  rw[if_neg bx]at h ⊢;cases h;exact q _ H3 ((s1.trans s2).trans s3) fE
 |true =>
  rw[if_pos rfl]at h ⊢;let⟨c,ec,h⟩:=aw h;refine hc H₀ O H3 σ env _ c.1 c.2 (R2.keep s3) ec λw H4 s4 h4=>?_;let R4:=(R2.keep s3).keep s4;refine hr' H₀ O H4 y w b c Q m d R4.od R4.hd ((h2.keep s3).keep s4).h0 h4.h0 h λv H5 s5 h5=>?_;let s:=((s1.trans s2).trans s3).trans s4;exact q v H5 (s.trans s5) (h5.hb λa z=>s.free z)
def pO:Qzz→Option (List V)
 |[]=>some []
 |d::ds=>(gQ d).bind λv=>(pO ds).bind λr=>some (v::r)
theorem Lk{N:Qzj}:∀{ds:Qzz}{vs ws:List V},aB K N H vs ds→pO ds=some ws→vs=ws∧ws.all ll=true
 |_,_,_,.nil,e=>by cases e;exact⟨rfl,rfl⟩
 |d::ds,v::vs,ws,.cons h r,e=>by
  let⟨w,ew,e⟩:=aw e;let⟨r',er,e⟩:=aw e;cases e;let⟨rfl,f⟩:=Lk r er;obtain rfl:=rB h ew;refine⟨rfl,?_⟩;rw[p9,f,Bool.and_true];cases h<;>simp only[gQ]at ew<;>first|rfl|cases ew
abbrev zL:D→Option (Qzz)
 |.lst ds=>some ds
 |.tup ds=>some ds
 |_=>none
def ft(neg:Bool):M×D→M×D→Qzq:=λa b=>(gQ a.2).bind λx=>(zL b.2).bind λds=>(pO ds).bind λvs=>some (.fr,.bl (if neg then !eE x vs else eE x vs))
def seq_val{m:M}{d:D}{ds:Qzz}{v:V}{Hb:Hp}(e:zL d=some ds)(h:Val K H₀ O Hb H m d v):∃p xs,v=.ref p∧(b0 K H p xs∨bC K H p xs)∧aB K (NM H₀ O (bf m)) H xs ds:=by
 cases d<;>simp only[zL]at e<;>cases e
 ·let⟨p,xs,rfl,h,r⟩:=h.tup;exact⟨p,xs,rfl,.inr h,r⟩
 ·let⟨p,xs,rfl,h,r⟩:=h.lst;exact⟨p,xs,rfl,.inl h,r⟩
def V5{d:D}{x:V}(e:gQ d=some x):ll x=true:=by
 cases d<;>simp only[gQ]at e<;>cases e<;>rfl
def Om{neg:Bool}:JR K (v9 K neg) (ft neg):=by
 intro H₀ O H x y a b Q m d _ _ h1 h2 h q;let⟨x',ex,h⟩:=aw h;let⟨ds,ed,h⟩:=aw h;let⟨vs,ev,h⟩:=aw h;cases h;let⟨p,xs,rfl,hs,r⟩:=seq_val ed h2;let⟨rfl,f⟩:=Lk r ev;obtain rfl:=rB h1.weak ex;exact⟨p,_,rfl,hs,V5 ex,f,q _ H (aG.refl H) fE⟩
def V6{m:M}(h:fL m=true):jH m=true:=by cases m<;>first|rfl|cases h
abbrev fu:Qqx:=λ_=>some true
def Ln:fS K zF fu:=by
 intro H₀ O H σ env Q b R h q;cases h;exact q H (aG.refl H)
abbrev gG(e:Ev)(ix:Qxj):Ev:=ix.map λi=>(e[i]?).getD none
abbrev dY(fc:Qqx)(fe:Qqj)(m:M)(fr:Ev):Qzz→Option (List (M×D))
 |[]=>some []
 |d::ds=>(fc (some (m,d)::fr)).bind λb=>if b=true then (fe (some (m,d)::fr)).bind λx=>(dY fc fe m fr ds).bind λr=>some (x::r)else dY fc fe m fr ds
def cW(it:Ev→Option (M×Qzz))(ix:Qxj)(fc:Qqx)(fe:Qqj):Qqj:=λe=>(it e).bind λx=>(dY fc fe x.1 (gG e ix) x.2).bind iR
def fm.fr{ix:Qxj}(R:fm K H₀ O H σ env):Paired (λ(e:Qzq) (x:Option V)=>∀m d,e=some (m,d)→jH m=true∧∃v,x=some v∧Val K H₀ O HE H m d v) (gG env ix) (gA σ ix):=by
 unfold gG gA
 induction ix with
 |nil=>exact .nil
 |cons i ix ih =>
  refine .cons (λm d e=>?_) ih;let e':env[i]?=some (some (m,d)):=by
   let e:(env[i]?).getD none=some (m,d):=e;cases q:env[i]? with
   |none=>rw[q]at e;cases e
   |some z=>rw[q]at e;exact de some e
  let⟨v,hv,n,h⟩:=R.at e';exact⟨n,v,by show(σ[i]?).getD none=_;rw[hv];rfl,h⟩
def fm.more{C:Addr}(R:fm K H₀ O H σ env)(hC:H C=none){H2:Hp}(s:aG H H2)(ys:List V)(e:H2 C=some (.lst ys)):fm K H₀ (λa=>O a∨a=C) H2 σ env:=by
 let np:∀a,(∃o,H a=some o)→a≠C:=λa ⟨o,e⟩=>eZ e hC;let w:∀{N:Qzj}{d:D}{v:V},Rp K N H v d→Rp K (λa=>N a∧a≠C) H2 v d:=λr=>(r.wk λa n e=>⟨n,np a e⟩).keep (.same s);let ws:∀{N:Qzj}{d:D}{q:Addr},Cell K N H q d→Cell K (λa=>N a∧a≠C) H2 q d:=λ{N d q} r=>by
  let⟨o,e,_⟩:=r.some;exact(r.wk λa n e=>⟨n,np a e⟩).keep (.same s) ((s _ _ e).trans e.symm)
 refine⟨nJ (λe x h m d q=>?_) R.sl,λa h=>?_,λa o h=>?_,λa o h q=>?_⟩
 ·let⟨n,v,rfl,z⟩:=h m d q;refine⟨n,v,rfl,?_⟩;cases m
  ·exact(w z).wk λa h _=>λz=>z.elim h.1 h.2
  ·exact(w z).wk λa h _=>⟨λz=>z.elim h.1.1 h.2,h.1.2⟩
  ·cases n
  ·let⟨q,rfl,h1,h2,c'⟩:=z;exact⟨q,rfl,.inl h1,h2,(ws c').wk λa h _=>⟨λz=>z.elim h.1.1 h.2,h.1.2⟩⟩
  ·let⟨q,rfl,h1,c'⟩:=z;exact⟨q,rfl,.inl h1,(ws c').wk λa h _=>⟨λz=>z.elim h.1.1 h.2,h.1.2⟩⟩
  ·cases n
  ·let⟨q,qs,aS,e1,e2,h1,h2,h3,h4,h5,h6⟩:=z;exact⟨q,qs,aS,e1,e2,.inl h1,h2,s _ _ h3,h4,λx hx=>⟨.inl (h5 x hx).1,(h5 x hx).2⟩,lh (λx ds _ ⟨xs,a,r⟩=>⟨xs,s _ _ a,((r.wk λa n e=>(⟨n,np a e⟩:(¬O a∧H₀ a=none)∧a≠C)).keep (.same s)).wk λa h _=>⟨λz=>z.elim h.1.1 h.2,h.1.2⟩⟩) h6⟩
  ·cases n
 ·rcases h with h|rfl
  ·let⟨o,q⟩:=R.od a h;exact⟨o,s _ _ q⟩
  ·exact⟨_,e⟩
 ·let⟨o',q⟩:=R.hd a o h;exact⟨o',s _ _ q⟩
 ·rcases h with h|rfl
  ·exact(R.keep s).on a o h q
  ·rw[e]at q;cases q;exactλz=>z
def JC{J:It}{m:M}{ds:Qzz}{tc:TT}{te:TE}{fc:Qqx}{fe:Qqj}{H1:Hp}{ix:Qxj}{cS:List (M×D)}{bb:Bool}{Q:Addr→Hp→Prop}{C:Addr}
  (R:fm K H₀ O H1 σ env) (hm:fL m=true) (ok:lD K H₀ O J H1 m ds) (hc:fS K tc fc) (he:JT K te fe) (hl:cS.length≤sizeLine) (et:dY fc fe m (gG env ix) ds=some cS)
  (hs:∀x∈cS,(if bb then cY x.1 x.2 else ib x.1 x.2)=true) (hC:H1 C=none)
  (q:∀ys H',aG H1 H'→H' C=some (.lst ys)→aB K (λa=>¬(O a∨a=C)∧(bb=true→H₀ a=none)) H' ys (cS.map (·.2))→Q C H'):vb J C H1 (gA σ ix) tc te Q:=by
 let hN:∀{N:Qzj}{Ha Hb:Hp},(∀a,N a→a≠C)→(∀b o,b≠C→Ha b=some o→Hb b=some o)→(∀o,Ha C=some o→¬ia o)→Keeps N Ha Hb:=λw s nt a o e z=>s a o (by
  rcases z with z|z
  ·exact w a z
  ·rintro rfl;exact nt o e z) e
 refine⟨λi n H2=>n=ds.length-i∧i≤ds.length∧aG H1 H2∧∃ys acc rest,H2 C=some (.lst ys)∧dY fc fe m (gG env ix) (ds.drop i)=some rest∧cS=acc++rest∧aB K (λa=>¬(O a∨a=C)∧(bb=true→H₀ a=none)) H2 ys (acc.map (·.2)),⟨_,rfl,jE _,dn hC,[],[],cS,bQ,et,rfl,.nil⟩,?_⟩;rintro i n H2 ⟨rfl,hle,s2,ys,acc,rest,qk,er,rW,rr⟩;let bD:aQ O H1 O H2:=aQ.same s2;by_cases aX:i<ds.length
 ·refine .inr ⟨ok.go O H2 i bD aX,λx H3 y=>?_⟩;let adM:aQ O H1 (λa=>O a∨a=C) H2:=λa o e n=>⟨s2 a o e,λz=>z.elim n (eZ e hC)⟩;let⟨s3,d,hd,hv⟩:=ok.ku (λa=>O a∨a=C) H2 i x H3 adM aX y;let R2:=R.more hC s2 ys qk;let R3:=R2.keep s3;let Q6:fm K H₀ (λa=>O a∨a=C) H3 (some x::gA σ ix) (some (m,d)::gG env ix) :=
   ⟨.cons (λm' d' e=>by cases e;exact⟨V6 hm,x,rfl,hv⟩) R3.fr,R3.od,R3.hd,R3.on⟩
  let wB:ds.drop i=d::ds.drop (i+1):=by
   rw[F3 aX];rw[dC aX]at hd;cases hd;rfl
  rw[wB]at er;simp only[dY]at er;let⟨b,eb,er⟩:=aw er;refine hc H₀ _ H3 _ _ _ b Q6 eb λH4 s4=>?_;cases b with
  |true =>
   rw[if_pos rfl]at er ⊢;let⟨z,ez,er⟩:=aw er;let⟨r',er',er⟩:=aw er;cases er;refine he H₀ _ H4 _ _ _ z.1 z.2 (Q6.keep s4) ez λw H5 s5 h5=>?_;let AY:aG H2 H5:=(s3.trans s4).trans s5;let hyl:ys.length=acc.length:=by rw[rr.len,eU]
   let qo:acc.length<sizeLine:=by
    let e1:=de List.length rW;rw[fw,gf]at e1;omega
   refine⟨ys,AY _ _ qk,by rw[hyl];exact qo,ds.length-(i+1),by omega,rfl,aX,?_,ys++[w],acc++[z],r',bQ,er',by rw[rW,List.append_assoc];rfl,?_⟩
   ·intro a o e;rw[aI (eZ e hC)];exact AY _ _ (s2 _ _ e)
   ·rw[km];let hz:Rp K (λa=>¬(O a∨a=C)∧(bb=true→H₀ a=none)) H5 w z.2:=by
     let h:=hs z (by rw[rW];exact jD _ cg);cases bb with
     |true=>exact(h5.cY h).wk λa h _=>⟨h.1,λ_=>h.2⟩
     |false=>exact(h5.ib h).wk λa h _=>⟨h,λz=>nomatch z⟩
    let kp:Keeps (λa=>¬(O a∨a=C)∧(bb=true→H₀ a=none)) H5 (upd H5 C (.lst (ys++[w]))):=hN (λa h z=>h.1 (.inr z)) (λb o ne e=>by rw[aI ne];exact e) (λo e=>by rw[AY _ _ qk]at e;cases e;exactλz=>z);exact((rr.keep (.same AY)).keep kp).app (.cons (hz.keep kp) .nil)
  |false =>
   rw[if_neg bx]at er ⊢;let GL:=s3.trans s4;exact⟨ds.length-(i+1),by omega,rfl,aX,s2.trans GL,ys,acc,rest,GL _ _ qk,er,rW,rr.keep (.same GL)⟩
 ·let hi:i=ds.length:=by omega
  subst hi;rw[F4]at er;cases er;rw[sj]at rW;subst rW;exact .inl ⟨ok.stop O H2 bD,q ys H2 s2 qk rr⟩
def yv{wi:TI}{ix:Qxj}{tc:TT}{te:TE}{it:Ev→Option (M×Qzz)}{fc:Qqx}{fe:Qqj}(hi:JI K wi it)(hc:fS K tc fc)(he:JT K te fe):JT K (rA wi ix tc te) (cW it ix fc fe):=by
 intro H₀ O H σ env Q m d R e q;let⟨⟨mi,ds⟩,ei,e⟩:=aw e;let⟨cS,et,e⟩:=aw e;refine hi H₀ O H σ env _ mi ds R ei λJ H1 s1 hm ok C hC=>?_;let R1:=R.keep s1;unfold iR at e;split at e
 ·rename_i hl;split at e
  ·rename_i ha;cases e;rw[lJ]at ha;refine JC (bb:=true) R1 hm ok hc he hl et (λx hx=>ha x hx) hC λys H' s' hy r=>?_;refine q _ H' (s1.trans s') ⟨C,rfl,s1.free hC,k5 R1.hd hC,iN R1.od hC,ys,hy,r.wk λa h _=>⟨⟨λz=>h.1 (.inl z),h.2 rfl⟩,λz=>h.1 (.inr z)⟩⟩
  ·split at e
   ·rename_i ha;cases e;rw[lJ]at ha;refine JC (bb:=false) R1 hm ok hc he hl et (λx hx=>ha x hx) hC λys H' s' hy r=>?_;exact q _ H' (s1.trans s') (Rp.lst (.inl hy) (iN R1.od hC) (r.wk λa h _=>λz=>h.1 (.inl z)))
   ·cases e
 ·cases e
def XH:∀e ay,ai e=some ay→ay.length=0:=λe ay h=>by cases h;rfl
def V7{n:Nat}{f:Qqj}{g:Qqz}(h:∀e ay,g e=some ay→ay.length=n):∀e ay,ag f g e=some ay→ay.length=n+1:=λe ay q=>by
 let⟨x,ex,q⟩:=aw q;let⟨r,er,q⟩:=aw q;cases q;rw[gf,h e r er]
end
section
variable {K:Qzk}{H H' H₀:Hp}{O O':Qzj}{σ:L2.St}{env:Ev}
def E8{X:Cx}{f:Value→Value→Sem Value}{r r':R2}(h:bO X f r)(h':bO X f r'):bO X f (λx y H Q=>r x y H Q∨r' x y H Q) :=
 λpins s σ H x y v u Q I rx ry q=>q.elim (h pins s σ H x y v u Q I rx ry) (h' pins s σ H x y v u Q I rx ry)
abbrev qq(g g':M×D→M×D→Qzq):M×D→M×D→Qzq:=λa b=>match g a b with
 |some z=>some z
 |none=>g' a b
set_option tactic.hygienic true in
def Ei{r r':R2}{g g':M×D→M×D→Qzq}(h:JR K r g)(h':JR K r' g'):JR K (λx y H Q=>r x y H Q∨r' x y H Q) (qq g g'):=by
 intro H₀ O H x y a b Q m d od hd h1 h2 e q;unfold qq at e;split at e
 ·rename_i z ez;cases e;exact .inl (h H₀ O H x y a b Q m d od hd h1 h2 ez q)
 ·exact .inr (h' H₀ O H x y a b Q m d od hd h1 h2 e q)
abbrev rC:M×D→M×D→Qzq
 | (_,.str x),(_,.str y)=>if x.length+y.length≤sizeLine then some (.fr,.str (x++y))else none
 |_,_=>none
def XI:JR K (λx y H Q=>∃i j,x=.str i∧y=.str j∧i.length+j.length≤sizeLine∧Q (.str (i++j)) H) rC:=by
 intro H₀ O H x y a b Q m d _ _ h1 h2 h q;let⟨ma,da⟩:=a;let⟨mb,db⟩:=b;cases da<;>try (cases h;done)
 cases db<;>try (cases h;done)
 simp only[rC]at h;split at h
 ·rename_i hl;cases h;exact⟨_,_,h1.str,h2.str,hl,q _ H (aG.refl H) Eg⟩
 ·cases h
abbrev zf(K:Qzk):R2:=λx y H Q=>∃a b xs ys,x=.ref a∧y=.ref b∧bC K H a xs∧bC K H b ys∧xs.length+ys.length≤sizeLine∧∀p H',aG H H'→bC K H' p (xs++ys)→Q (.ref p) H'
def XJ{X:Cx}:bO X (binaryOp .Add) (zf X.K):=by
 intro pins s σ H x y v u Q I rx ry h;let⟨a,b,xs,ys,rfl,rfl,ha,hb,hz,q⟩:=h;by_cases e:xs=[]
 ·subst e;cases rx;cases ry;let⟨its,r1,p1,_⟩:=I.tuple ha;let⟨vo,r2,p2,_⟩:=I.tuple hb;cases r1;exact VN p1 p2 ⟨.ref b,H,I,rfl,q b H (aG.refl H) hb⟩
 ·refine Xg pins s σ H (.ref a) (.ref b) v u Q I rx ry ⟨a,b,xs,ys,rfl,rfl,ha,hb,e,hz,λe2=>?_,λ_ p hp=>q p _ (dn hp) (bC.of bQ)⟩;subst e2;exact q a H (aG.refl H) (by rw[sj];exact ha)
def V8{X:Cx}(h:X.K=K):bO X (binaryOp .Add) (zf K):=by subst h;exact XJ
def zg:M×D→M×D→Qzq
 | (m,.tup ds),(n,.tup es)=>if bf m=.rb∨bf n=.rb then none else if ds.length+es.length≤sizeLine then some (bf (mJ m n),.tup (ds++es))else none
 |_,_=>none
def XM:JR K (zf K) zg:=by
 intro H₀ O H x y a b Q m d od hd h1 h2 h q;let⟨ma,da⟩:=a;let⟨mb,db⟩:=b;cases da<;>try (cases h;done)
 cases db<;>try (cases h;done)
 simp only[zg]at h;split at h
 ·cases h
 ·rename_i hn;split at h
  ·rename_i hl;cases h;let⟨p,xs,rfl,r,s⟩:=h1.tup;let⟨p',GH,rfl,r',s'⟩:=h2.tup;let n1:bf ma≠.rb:=λz=>hn (.inl z);let n2:bf mb≠.rb:=λz=>hn (.inr z);refine⟨p,p',xs,GH,rfl,rfl,r,r',by rw[s.len,s'.len];exact hl,λl H' sm hq=>q _ _ sm (Val.el (Rp.tup hq ?_))⟩;exact(aB.app (s.wk λ_ h _=>NM.QY n1 n2 h) (s'.wk λ_ h _=>NM.QZ n1 n2 h)).keep (.same sm)
  ·cases h
def E9(K:Qzk):V→Option Int→Option Int→Hp→VK→Prop:=λx lo hi H Q=>∃a xs,x=.ref a∧bC K H a xs∧∀p H',aG H H'→bC K H' p (j0 xs lo hi)→Q (.ref p) H'
def XO{X:Cx}:mZ X (E9 X.K):=by
 intro pins s σ H x v vl vu lo hi sl Q I rx hs pl pu h;let⟨a,xs,rfl,hx,q⟩:=h;by_cases e:HT.bj xs.length 0 lo=0∧HT.bj xs.length xs.length hi=xs.length
 ·cases rx;let⟨its,r,ht,hz⟩:=I.tuple hx;let hlen:its.toArray.size=xs.length:=by rw[gE];exact r.length.symm
  refine⟨"tuple",_,sk.lookup,ht.typeIs,TK ht hs pl pu (by rw[hlen];exact e.1) (by rw[hlen];exact e.2) ⟨.ref a,H,I,rfl,q a H (aG.refl H) ?_⟩⟩;let ec:j0 xs lo hi=xs:=by unfold j0;rw[e.1,e.2,List.drop_zero,Nat.sub_zero];exact List.take_of_length_le (aW _)
  rw[ec];exact hx
 ·exact Zx pins s σ H (.ref a) v vl vu lo hi sl Q I rx hs pl pu ⟨a,xs,rfl,hx,e,λp hp=>q p _ (dn hp) (bC.of bQ)⟩
def Pm:M×D→Option Int→Option Int→Qzq
 | (m,.tup ds),lo,hi=>some (bf m,.tup (cut ds lo hi))
 |_,_,_=>none
def XQ:oE K (E9 K) Pm:=by
 intro H₀ O H x lo hi a Q m d od hd h1 h q;let⟨ma,da⟩:=a;cases da<;>try (cases h;done)
 cases h;let⟨p,xs,rfl,r,s⟩:=h1.tup;exact⟨p,xs,rfl,r,λl H' sm hq=>q _ _ sm (Val.el (Rp.tup hq (s.cut.keep (.same sm))))⟩
abbrev Fc:M×D→Option Int→Option Int→Qzq
 | (_,.str z),lo,hi=>if z.length≤sizeLine then some (.fr,.str (Txt.slice z lo hi))else none
 |_,_,_=>none
def XR:oE K (λx lo hi H Q=>∃z:Str,x=.str z∧z.length≤sizeLine∧Q (.str (Txt.slice z lo hi)) H) Fc:=by
 intro H₀ O H x lo hi a Q m d od hd h1 h q;let⟨ma,da⟩:=a;cases da<;>try (cases h;done)
 simp only[Fc]at h;split at h
 ·rename_i hl;cases h;exact⟨_,h1.str,hl,q _ H (aG.refl H) Eg⟩
 ·cases h
abbrev vz(g g':M×D→Option Int→Option Int→Qzq):M×D→Option Int→Option Int→Qzq:=λa l h=>match g a l h with
 |some z=>some z
 |none=>g' a l h
set_option tactic.hygienic true in
def MY{r r':V→Option Int→Option Int→Hp→VK→Prop}{g g':M×D→Option Int→Option Int→Qzq}(h:oE K r g)(h':oE K r' g'):oE K (λx l u H Q=>r x l u H Q∨r' x l u H Q) (vz g g'):=by
 intro H₀ O H x lo hi a Q m d od hd h1 e q;unfold vz at e;split at e
 ·rename_i z ez;cases e;exact .inl (h H₀ O H x lo hi a Q m d od hd h1 ez q)
 ·exact .inr (h' H₀ O H x lo hi a Q m d od hd h1 e q)
def MZ{X:Cx}{r r':V→Option Int→Option Int→Hp→VK→Prop}(h:mZ X r)(h':mZ X r'):mZ X (λx l u H Q=>r x l u H Q∨r' x l u H Q) :=
 λpins s σ H x v vl vu lo hi sl Q I rx hs pl pu q=>q.elim (h pins s σ H x v vl vu lo hi sl Q I rx hs pl pu) (h' pins s σ H x v vl vu lo hi sl Q I rx hs pl pu)
@[reducible]def EF(K:Qzk):R2:=λx y H Q=>fQ (λi j=>.int (i+j)) x y H Q∨(λx y H Q=>(λx y H Q=>∃i j,x=.str i∧y=.str j∧i.length+j.length≤sizeLine∧Q (.str (i++j)) H) x y H Q∨(λx y H Q=>zb K x y H Q∨zf K x y H Q) x y H Q) x y H Q
def bW:=qq Pl (qq rC (qq rS zg))
def XS{X:Cx}(h:X.K=K):bO X (binaryOp .Add) (EF K):=E8 Zf (E8 Uq (E8 (V3 h) (V8 h)))
def XT:JR K (EF K) bW:=Ei ZQ (Ei XI (Ei Z4 XM))
@[reducible]def Q7(K:Qzk):V→Option Int→Option Int→Hp→VK→Prop:=λx l u H Q=>EH K x l u H Q∨(λx l u H Q=>E9 K x l u H Q∨(λx lo hi H Q=>∃z:Str,x=.str z∧z.length≤sizeLine∧Q (.str (Txt.slice z lo hi)) H) x l u H Q) x l u H Q
def iL:=vz E4 (vz Pm Fc)
def adN{X:Cx}(h:X.K=K):mZ X (Q7 K):=by subst h;exact MZ Xi (MZ XO ZN)
def ab7:oE K (Q7 K) iL:=MY VX (MY XQ XR)
abbrev wC:D→String
 |.non => "NoneType"
 |.bl _ => "bool"
 |.int _ => "int"
 |.str _ => "str"
 |.ty _ => "type"
 |.tup _ => "tuple"
 |.lst _ => "list"
 |.dk _ => "dict"
 |.dt _ => "dict"
def jw:List (M×D)→Qzq
 |[(_,d),(_,.ty T)]=>if wC d = "type" then none else if ["bool", "int", "str", "tuple", "list", "dict"].contains T=true then some (.fr,.bl (wC d==T||(wC d == "bool" && T == "int")))else none
 |_=>none
end
inductive TyJ (K:Qzk)(H:Hp):V→String→Prop where
 |non:TyJ K H .non "NoneType"
 |bl (x:Bool):TyJ K H (.bl x) "bool"
 |int (i:Int):TyJ K H (.int i) "int"
 |str (x:Str):TyJ K H (.str x) "str"
 |lst {a:Addr}{xs:List V} (e:b0 K H a xs):TyJ K H (.ref a) "list"
 |tup {a:Addr}{xs:List V} (e:bC K H a xs):TyJ K H (.ref a) "tuple"
 |dK {a:Addr}{aj:List (Key×V)} (e:Rd H a (.dK aj)):TyJ K H (.ref a) "dict"
 |dT {a:Addr}{aj:List (List Key×V)} (e:Rd H a (.dT aj)):TyJ K H (.ref a) "dict"
abbrev wD(t T:String):Bool:=t==T||(t == "bool" && T == "int")
def aal (K:Qzk) {t T:String} (h1:["NoneType", "bool", "int", "str", "tuple", "list", "dict"].contains t=true) (h2:["bool", "int", "str", "tuple", "list", "dict"].contains T=true):PySem.W.kitOne K (.type t) (.type T)=some (wD t T):=by
 simp only[List.contains_cons,List.contains_nil,Bool.or_false,Bool.or_eq_true,beq_iff_eq]at h1 h2;rcases h1 with rfl|rfl|rfl|rfl|rfl|rfl|rfl<;>rcases h2 with rfl|rfl|rfl|rfl|rfl|rfl<;>rfl
section
variable {K:Qzk}{H H' H₀:Hp}{O O':Qzj}{σ:L2.St}{env:Ev}
def aam{x:V}{t:String}(h:TyJ K H x t):["NoneType", "bool", "int", "str", "tuple", "list", "dict"].contains t=true:=by cases h<;>decide
def U8{X:Cx}(hK:X.K=K):iP X (.builtin "isinstance") (λxs H Q=>∃x T t,xs=[x,.ty T]∧TyJ K H x t∧["bool", "int", "str", "tuple", "list", "dict"].contains T=true∧Q (.bl (wD t T)) H):=by
 subst hK;intro pins s σ H xs us Q I r h;let⟨x,T,t,rfl,ty,hT,q⟩:=h;let⟨u,u',rfl,rx,ry⟩:=vals2 r;cases (show u'=Value.type T from ry);let e:=aal X.K (aam ty) hT;let fin:∀tk,EP X pins σ Q (.bool (wD t T)) { s with toks:=tk }:=λtk=>⟨.bl (wD t T),H,I.tok tk,rfl,q⟩;cases ty with
 |non=>cases (show u=Value.none from rx);exact oh PySem.W.kitx_none I.iE True.intro e (λz=>nomatch z) fin
 |bl y=>cases (show u=Value.bool y from rx);exact oh PySem.W.kitx_bool I.iE True.intro e (λz=>nomatch z) fin
 |int i=>let⟨t,q⟩:=(show ∃t,u=Value.int i t from rx);cases q;exact oh PySem.W.kitx_int I.iE True.intro e (λz=>nomatch z) fin
 |str y=>let⟨t,q⟩:=(show ∃t,u=Value.str y t from rx);cases q;exact oh PySem.W.kitx_str I.iE True.intro e (λz=>nomatch z) fin
 |@lst a xs ea =>
  cases (show u=Value.ref a from rx);let⟨its,_,⟨o,n,h1,h2,_⟩,_⟩:=I.list ea;exact oh PySem.W.kitx_list I.iE ⟨o,h1,h2⟩ e (λz=>nomatch z) fin
 |@tup a xs ea =>
  cases (show u=Value.ref a from rx);let⟨its,_,p,_⟩:=I.tuple ea;let⟨o,h1,h2,_⟩:=p;exact oh PySem.W.kitx_tuple I.iE ⟨o,h1,h2⟩ e (λz=>nomatch z) fin
 |@dK a aj ea =>
  cases (show u=Value.ref a from rx);let⟨_,_,vs,_,p⟩:=ea.ok I.aH;let⟨o,es,ep,h1,h2,_⟩:=p;exact oh PySem.W.kitx_dict I.iE ⟨o,h1,h2.1⟩ e (λz=>nomatch z) fin
 |@dT a aj ea =>
  cases (show u=Value.ref a from rx);let⟨_,_,vs,_,o,es,ep,h1,h2,_⟩:=ea.ok I.aH;exact oh PySem.W.kitx_dict I.iE ⟨o,h1,h2.1⟩ e (λz=>nomatch z) fin
def aan {N:Qzj}{v:V}{d:D} (h:Rp K N H v d) (n:wC d ≠ "type"):TyJ K H v (wC d):=by
 cases h with
 |non=>exact .non
 |bl b=>exact .bl b
 |int i=>exact .int i
 |str x=>exact .str x
 |ty x=>exact absurd rfl n
 |tup h _=>exact .tup h
 |lst h _ _=>exact .lst (.inl h)
 |lstK h _=>exact .lst (.inr h)
 |dk h _ _ _=>exact .dK h
 |dt h _ _ _=>exact .dT h
def XU:lR K (λxs H Q=>∃x T t,xs=[x,.ty T]∧TyJ K H x t∧["bool", "int", "str", "tuple", "list", "dict"].contains T=true∧Q (.bl (wD t T)) H) jw:=by
 intro H₀ O H vs ay Q m d _ _ hv h q;unfold jw at h;split at h
 ·split at h
  ·cases h
  ·rename_i hn;split at h
   ·rename_i hT;cases h;let⟨v,w,rfl,hx,hw⟩:=hv.two;obtain rfl:=hw.ty;exact⟨v,_,_,rfl,aan hx.weak hn,hT,q _ H (aG.refl H) fE⟩
   ·cases h
 ·cases h
end
section
variable {K:Qzk}{H:Hp}
theorem Dt{N:Qzj}:∀(ns:Qxk),aB K N H (ns.map V.int) (ns.map D.int)
 |[]=>.nil
 |n::ns=>.cons (.int n) (Dt ns)
def aao{F:Qqk}{a:Addr}{ns:Qxk}{E:XK}(h:b0 K H a (ns.map V.int))(e:∃m,F [.lst (ns.map .int)]=some (m,.bl true)):qm K 1 F [.ref a] H (λv _=>v=.bl true) E:=by
 let⟨m,e⟩:=e;refine⟨rfl,_,m,_,.cons ?_ .nil,e,λv H' _ r=>?_⟩
 ·rcases h with h|h
  ·exact .lst h trivial (Dt ns)
  ·exact .lstK h (Dt ns)
 ·cases m<;>try exact r.elim
  ·exact Rp.MS r
  ·let⟨p,_,_,c⟩:=r;exact c.elim
  ·let⟨_,_,_,_,e,_⟩:=r;cases e
end
section
variable {m n:M}{i j:Int}{x y:Str}{b c:Bool}{ds es:Qzz}{d:D}
def iT:aP (m,.int i) (n,.int j)=some (.fr,.bl (decide (i=j))):=by
 show(if true=true then some (M.fr,D.bl (decide (V.int i=V.int j)))else none)=_;simp
def iu:aP (m,.str x) (n,.str y)=some (.fr,.bl (decide (x=y))):=by
 show(if true=true then some (M.fr,D.bl (decide (V.str x=V.str y)))else none)=_;simp
def ab8:aP (m,.str x) (n,.int j)=some (.fr,.bl false):=by
 show(if true=true then some (M.fr,D.bl (decide (V.str x=V.int j)))else none)=_;simp
def zh:jI (m,.int i) (n,.int j)=some (.fr,.bl (!decide (i=j))):=by
 show(if true=true then some (M.fr,D.bl (!decide (V.int i=V.int j)))else none)=_;simp
def Oo:jI (m,.str x) (n,.str y)=some (.fr,.bl (!decide (x=y))):=by
 show(if true=true then some (M.fr,D.bl (!decide (V.str x=V.str y)))else none)=_;simp
def DW:bW (m,.int i) (n,.int j)=some (.fr,.int (i+j)):=rfl
def yI(h:x.length+y.length≤sizeLine):bW (m,.str x) (n,.str y)=some (.fr,.str (x++y)):=by
 show(match (none:Qzq) with|some z=>some z|none=>qq rC (qq rS zg) (m,.str x) (n,.str y))=_
 show(match rC (m,.str x) (n,.str y) with|some z=>some z|none=>_)=_
 simp only[rC,if_pos h]
def M0(hm:bf m≠.rb)(hn:bf n≠.rb)(h:ds.length+es.length≤sizeLine):bW (m,.lst ds) (n,.lst es)=iJ (mJ m n) (ds++es):=by
 show(match rS (m,.lst ds) (n,.lst es) with|some z=>some z|none=>none)=_
 simp only[rS,hm,hn,or_self,if_false,h,if_true];cases iJ (mJ m n) (ds++es)<;>rfl
def yJ:jv (m,.int i) (n,.int j)=some (.fr,.int (i-j)):=rfl
def mul_r(h:-18446744073709551616<j∧j<18446744073709551616):fZ (m,.int i) (n,.int j)=some (.fr,.int (i*j)):=by show(if _ then _ else _)=_;rw[if_pos (.inr h)]
def Ej(h:-18446744073709551616<i∧i<18446744073709551616):fZ (m,.int i) (n,.int j)=some (.fr,.int (i*j)):=by show(if _ then _ else _)=_;rw[if_pos (.inl h)]
def oZ(h:0<j):bh (m,.int i) (n,.int j)=some (.fr,.int (i%j)):=by show(if _ then _ else _)=_;rw[if_pos h]
def div_ii(h:0<j∧j<1606938044258990275541962092341162602522202993782792835301376):cL (m,.int i) (n,.int j)=some (.fr,.int (i/j)):=by show(if _ then _ else _)=_;rw[if_pos h]
def aap(h:0≤j∧j≤1000000∧i.natAbs<2^64):j4 (m,.int i) (n,.int j)=some (.fr,.int (i^j.toNat)):=by show(if _ then _ else _)=_;rw[if_pos h]
def aaq(h:0≤j∧j≤1000000∧i.natAbs<2^64):pI (m,.int i) (n,.int j)=some (.fr,.int (i*2^j.toNat)):=by show(if _ then _ else _)=_;rw[if_pos h]
def M3(h:0≤j):mM (m,.int i) (n,.int j)=some (.fr,.int (i/2^j.toNat)):=by show(if _ then _ else _)=_;rw[if_pos h]
def ab9:j4 (m,.int 2) (n,.int 64)=some (.fr,.int 18446744073709551616):=by
 rw[aap (by decide)];have:(2:Int)^(64:Int).toNat=18446744073709551616:=by decide
 rw[this]
def Ek:gF (m,.int i) (n,.int j)=some (.fr,.bl (decide (i<j))):=rfl
def El:ql (m,.int i) (n,.int j)=some (.fr,.bl (decide (i≤j))):=rfl
def pv:i5 (m,.int i) (n,.int j)=some (.fr,.bl (decide (j<i))):=rfl
def Du:gX (m,.int i) (n,.int j)=some (.fr,.int (Builtin.bitAnd i j)):=rfl
def M4:pN (m,.int i) (n,.int j)=some (.fr,.int (Builtin.bitOr i j)):=rfl
def lz:fq (m,.int i)=some (.fr,.int (-i)):=rfl
def aca:nV (m,.int i)=some (.fr,.int (Builtin.bitNot i)):=rfl
def cZ:au (m,.lst ds) (n,.int i)=(bp ds i).map λd=>(bf m,d):=rfl
def acb(h:x.length≤sizeLine):au (m,.str x) (n,.int i)=(bp x.cps.toList i).map λc=>(.fr,.str ⟨#[c]⟩):=by simp[au,h]
def dE:bJ [(m,.lst ds)]=some (.fr,.int ds.length):=rfl
def acd:nU [(m,.bl b)]=some (.fr,.int (if b then 1 else 0)):=rfl
def bN:oD (m,.bl b)=some b:=rfl
def lj:pJ (m,.int i)=some i:=rfl
def mr:nC (.fr,d)=some (.fr,d):=rfl
def Lp:nC (.al,d)=some (.al,d):=rfl
def mv:nC (.un,d)=some (.bo,d):=rfl
def uN{e:Ev}:out (.rt e .fr d)=some (.fr,d):=rfl
def uO{e:Ev}:out (.rt e .un d)=some (.un,d):=rfl
def uP{e:Ev}:out (.rt e .bo d)=some (.un,d):=rfl
def M5{e:Ev}(h:d.cB=true):out (.rt e .al d)=some (.fr,d):=by simp[out,h]
def iq:cY .fr d=true:=rfl
def uQ:cY .al d=d.cB:=rfl
def pP:D.cB (.int i)=true:=by simp only[D.cB]
def Pn:D.cB (.str x)=true:=by simp only[D.cB]
def V9:D.cO (d::ds)=(d.cB&&D.cO ds):=by simp only[D.cO]
def gw:bf .al=.al:=rfl
def yK:bf .fr=.fr:=rfl
def aar:bf .un=.fr:=rfl
def pf:bf .bo=.fr:=rfl
def aas(h:D.cO ds=true):iJ .al ds=some (.un,.lst ds):=by simp[iJ,bf,h]
def M6:iJ .fr ds=some (.un,.lst ds):=by simp[iJ,bf]
def av{f g:Qqq}{e e':Ev}(h:f e=some (.nx e')):aq f g e=g e':=by simp[aq,h]
def dJ{f g:Qqq}{e e':Ev}(h:f e=some (.rt e' m d)):aq f g e=some (.rt e' m d):=by simp[aq,h]
def bF{c:Qqx}{f g:Qqq}{e:Ev}(h:c e=some true):aM c f g e=f e:=by simp[aM,h]
def bE{c:Qqx}{f g:Qqq}{e:Ev}(h:c e=some false):aM c f g e=g e:=by simp[aM,h]
theorem CY:∀ns:Qxk,D.cO (ns.map .int)=true
 |[]=>by simp only[List.map_nil,D.cO]
 |n::ns=>by simp only[List.map_cons,D.cO,D.cB,CY ns,Bool.and_self]
def ml{α:Type}{l:List α}{k:Nat}(h:k<l.length):L2.bp l (k:Int)=some l[k]:=by
 unfold L2.bp L2.dh;rw[if_pos (z7 k),if_pos (by omega)];simp[h]
def jh{α:Type}{l:List α}{k:Int}(h0:0≤k)(h1:k<l.length):L2.bp l k=some (l[k.toNat]'(by omega)):=by
 unfold L2.bp L2.dh;rw[if_pos h0,if_pos h1];have:k.toNat<l.length:=by omega
 simp[this]
def Kj{ns:Qxk}{k:Int}(h0:0≤k)(h1:k<ns.length):∃c,L2.bp (ns.map D.int) k=some (.int c):=by
 rw[jh h0 (by simpa using h1)];exact⟨ns[k.toNat]'(by omega),by simp⟩
end
theorem du{g:M×D→Ev→Option Ev}{b:Qqq}{m:M}:∀{ds:Qzz}{e:Ev} (Iv:Nat→Ev→Prop),Iv 0 e →
  (∀(k:Nat) d e,ds[k]?=some d→Iv k e→∃e1 e2,g (m,d) e=some e1∧b e1=some (.nx e2)∧Iv (k+1) e2)→∃e',forL g b m ds e=some (.nx e')∧Iv ds.length e'
 |[],e,Iv,h0,_=>⟨e,rfl,h0⟩
 |d::ds,e,Iv,h0,hs=>by
  let⟨e1,e2,h1,h2,h3⟩:=hs 0 d e rfl h0;let⟨e',h4,h5⟩:=du (ds:=ds) (e:=e2) (λk e=>Iv (k+1) e) h3 λk d e hd hi=>hs (k+1) d e (by simpa using hd) hi;refine⟨e',?_,h5⟩;simp only[forL,h1,h2,Option.bind_some];exact h4
def mB{lo:Int}{n k:Nat}{d:D}(h:(cu lo n)[k]?=some d):k<n∧d=.int (lo+k):=by
 unfold cu at h;rw[cA]at h;let hk:k<n:=by
  rcases vN k n with z|z
  ·exact z
  ·rw[og (by simpa using z)]at h;cases h
 rw[Ap hk]at h;cases h;exact⟨hk,rfl⟩
def k6{lo:Int}{n:Nat}:(cu lo n).length=n:=by simp[cu]
def JD{c:Qqx}{b:Qqq}{e:Ev}(Iv:Ev→Prop)(μ:Ev→Nat)(h0:Iv e)
  (hs:∀e,Iv e→c e=some false∨(c e=some true∧∃e2,b e=some (.nx e2)∧Iv e2∧μ e2<μ e)):∃e',ip c b e=some (.nx e')∧Iv e'∧c e'=some false:=by
 have:∀(n:Nat) e,μ e≤n→Iv e→∃e',dI c b (n+1) e=some (.nx e')∧Iv e'∧c e'=some false:=by
  intro n
  induction n with
  |zero =>
   intro e hn hi;rcases hs e hi with h|⟨_,e2,_,_,h⟩
   ·exact⟨e,by simp[dI,h],hi,h⟩
   ·omega
  |succ n ih =>
   intro e hn hi;rcases hs e hi with h|⟨h,e2,h1,h2,h3⟩
   ·exact⟨e,by simp[dI,h],hi,h⟩
   ·let⟨e',q1,q2,q3⟩:=ih e2 (by omega) h2;refine⟨e',?_,q2,q3⟩;rw[dI,h,An,if_pos rfl,h1,An];exact q1
 let⟨e',h1,h2,h3⟩:=this (μ e) e (aW _) h0;exact⟨e',CW h1,h2,h3⟩
def szT{n:Nat}(h:n≤1000):(n≤sizeLine)=True:=eq_true (dM h (by decide))
end J
namespace J
open PySem PySem.Spec PyProof.Rows L2
section
variable {X:Cx}{pins:Qxq}{σ:L2.St}{H:Hp}{s:Shared}{h':Heap}
def Uz{fp:List Addr}{t':Nat}(I:L2.Inv X pins σ H s)(k:∀b o,b∉fp→s.heap.get? b=some o→h'.get? b=some o)(hf:∀b∈fp,jY X pins H b):L2.Inv X pins σ H { s with heap:=h',toks:=t' }:=by
 let oj:∀b u,H b=some u→b∉fp:=λb u e z=>by rw[(hf b z).1]at e;cases e
 refine I.step (g':=s.gens) (d':=s.drawn) (ch:=fp) (λb hb=>?_) (λb o _ _ hc e _=>k b o hc e) (λb o _ _ hc e _=>⟨o.slots,k b o hc e⟩) (λ_ _ _ _ n=>n)
  (λb o hc e=>⟨o,k b o hc e⟩) (λ_ _ e=>e) (λ_ _ _ e=>e) (λb ps e=>⟨#[],by rw[e];simp⟩) (λm hm=>?_) (λb u e=>?_) I.bare
 ·let⟨f0,f1,f2,f3,f4,f5⟩:=hf b hb;exact⟨f3,f1,f4,f5⟩
 ·let⟨o,es,ep,ho,r⟩:=hm;exact⟨o,es,ep,k _ o (λz=>(hf _ z).2.1 rfl) ho,r⟩
 ·refine(I.aH b u e).nQ (λc v hc q=>k c v ?_ q) (λ_ q=>q) λ_ _ q=>q;rcases hc with z|z
  ·rw[z];exact oj b u e
  ·exact oj c _ z
def Ug{fp:List Addr}{t':Nat}{o:HO}(I:L2.Inv X pins σ H s)(k:∀b o,b∉fp→s.heap.get? b=some o→h'.get? b=some o)(hf:∀b∈fp,jY X pins H b)(new:cK X.prog X.w (upd H s.heap.objs.size o) h' s.heap.objs.size o) :
  L2.Inv X pins σ (upd H s.heap.objs.size o) { s with heap:=h',toks:=t' }:=by
 let oj:∀b u,H b=some u→b∉fp:=λb u e z=>by rw[(hf b z).1]at e;cases e
 let hT:H s.heap.objs.size=none:=I.aH.fresh (aW _);let neT:∀b u,H b=some u→b≠s.heap.objs.size:=λb u e=>eZ e hT;let neB:∀b o,s.heap.get? b=some o→b≠s.heap.objs.size:=λb o e=>fH (bZ e);refine I.step (g':=s.gens) (d':=s.drawn) (ch:=fp) (λb hb=>?_) (λb o _ _ hc e _=>k b o hc e) (λb o _ _ hc e _=>⟨o.slots,k b o hc e⟩) (λb o _ e n=>by rw[aI (neB b o e)];exact n)
  (λb o hc e=>⟨o,k b o hc e⟩) (λb xs e=>by rw[aI (neT b _ e)];exact e) (λb _ _ e=>by rw[aI (neT b _ e)];exact e) (λb ps e=>⟨#[],by rw[aI (neT b _ e),e];simp⟩) (λm hm=>?_) (λb u e=>?_) I.bare
 ·let⟨f0,f1,f2,f3,f4,f5⟩:=hf b hb;exact⟨f3,f1,f4,f5⟩
 ·let⟨o,es,ep,ho,r⟩:=hm;exact⟨o,es,ep,k _ o (λz=>(hf _ z).2.1 rfl) ho,r⟩
 ·by_cases hb:b=s.heap.objs.size
  ·subst hb;rw[bQ]at e;cases e;exact new
  ·rw[aI hb]at e;refine(I.aH b u e).nQ (λc v hc q=>k c v ?_ q) (λc q=>by rw[aI (neT c _ q)];exact q) λc xs q=>by rw[aI (neT c _ q)];exact q
   rcases hc with z|z
   ·rw[z];exact oj b u e
   ·exact oj c _ z
end
def GN(K:Qzk)(a:Addr):It :=
 ⟨λi H=>∃xs x,b0 K H a xs∧xs[i]?=some x,λi H x H'=>∃t y,x=.ref t∧H t=none∧H'=upd H t (.tup [.int i,y])∧∀xs,b0 K H a xs→xs[i]?=some y,λi H=>∃xs,b0 K H a xs∧xs.length≤i⟩
def U9{P:Program}{w:World}{K:Qzk}{elts:Qjq}{x1}{pos:Pos}(a e it:Addr)(lP:e≠it):Turn P w K (.Tuple elts x1 pos) (GN K a) [e,it] e (λi h=>(∃old,IsEnum h e it i old)∧h.IsListIter it a i) where
 mem:=by simp
 obj:=λi h st b hb=>by
  let⟨⟨old,he⟩,o,ho,c,d⟩:=st;rcases dN.mp hb with rfl|hb
  ·exact⟨_,he,λv z=>nomatch z⟩
  ·let e:b=it:=by simpa using hb
   subst e;exact⟨o,ho,λv z=>by rw[d]at z;cases z⟩
 keep:=λi h h' st k=>by
  let⟨⟨old,he⟩,hit⟩:=st;exact⟨⟨old,k e (by simp) _ he⟩,hit.at λo q=>k it (by simp) o q⟩
 item:=by
  intro X hP hw hK hc i pins s σ H E I hf st hg;subst hP hw hK;let⟨xs,x,hq,hx⟩:=hg;let⟨its,rv,p,hz⟩:=I.list hq;let⟨u,hu,ru⟩:=rv.get hx;let⟨⟨old,he⟩,hit⟩:=st;let GO:e<s.heap.objs.size:=bZ he;let GP:it<s.heap.objs.size:=by let⟨_,q,_⟩:=hit;exact bZ q
  let hT:H s.heap.objs.size=none:=I.aH.fresh (aW _);refine wpAny_pyNext_enum_item he hit p.isList (x:=u) (by simpa using hu) lP λh1 ho adO ht hsz hk=>⟨_,rfl,?_⟩;refine wpAny_letOwnedTupleGo_enum ho λh2 he2 sb=>?_;let ht2:h2.get? s.heap.objs.size=some { cls:=.type "tuple",data:=.seq #[.int i s.toks,u] }:=(sb.2 _ (Nat.ne_of_gt GO)).trans ht;let k2:∀b o,b∉[e,it]→s.heap.get? b=some o→h2.get? b=some o:=λb o nb q=>by
   let n1:b≠e:=λz=>nb (by simp[z]);let n2:b≠it:=λz=>nb (by simp[z]);exact(sb.2 b n1).trans (hk b o n1 n2 q)
  refine⟨.ref s.heap.objs.size,upd H s.heap.objs.size (.tup [.int i,x]),?_,rfl,⟨s.heap.objs.size,x,rfl,hT,rfl,λys hy=>by rw[I.ye hy hq];exact hx⟩,⟨⟨_,by simpa using he2⟩,adO.at λo q=>(sb.2 it lP.symm).trans q⟩,λb hb=>?_⟩
  ·refine Ug (t':=s.toks+1) I k2 hf ⟨by show 2≤sizeLine;decide,[.int i s.toks,u],.cons ⟨_,rfl⟩ (.cons ru .nil),⟨_,ht2,rfl,rfl,_,rfl⟩⟩
  ·let ng:b<s.heap.objs.size:=by
    rcases dN.mp hb with rfl|hb
    ·exact GO
    ·let e:b=it:=by simpa using hb
     rw[e];exact GP
   rw[aI (fH ng)];exact(hf b hb).1
 done:=by
  intro X hP hw hK hc i pins s σ H E I hf st hg;subst hP hw hK;let⟨xs,hq,hx⟩:=hg;let⟨its,rv,p,hz⟩:=I.list hq;let⟨⟨old,he⟩,hit⟩:=st;let hl:=rv.length;refine wpAny_pyNext_enum_end (I.ok.hd hc) he hit p.isList (by simp;omega) λh1 eb=>⟨rfl,?_⟩;exact Uz (fp:=[e,it]) (t':=s.toks) I (λb o nb q=>eb b o (λz=>nb (by simp[z])) q) hf
 self:=λA i s Q E st h=>by
  let⟨⟨old,he⟩,_⟩:=st;exact wpAny_pyIter_enum he h
section
variable {X:Cx}
def Em(K:Qzk)(ta:TA):TI:=λσ H R=>ta σ H λvs H1=>∃a xs,vs=[.ref a]∧b0 K H1 a xs∧R (GN K a) H1
def XW {a:Expr}{ta:TA}{p pos pos':Pos}{elts:Qjq} {x1} (hg:Gl X "enumerate") (hm:X.mg "enumerate" = none) (ha:PA X [a] ta) (hs:starEach [a] X.env=[(false,eval a X.env)]:=by rfl):PI X (.Tuple elts x1 pos') (.Call (.Name "enumerate" p) [a] [] pos) (Em X.K ta):=by
 intro pins s σ H R I h;refine Call_ (lg I hg hm PyProof.Rows.Boot.«enumerate» (p6 (aK (ha pos pins s σ H _ I h) λus s1 ⟨vs,H1,I1,r1,q1⟩=>?_) hs rfl));let⟨l,xs,e,hq,q⟩:=q1;subst e;cases r1 with
 |cons r rr =>
  cases rr;cases r;let⟨its,rv,pl,hz⟩:=I1.list hq;refine call_enumerate_list pl.isList λh1 he hit hsz hk=>?_;let I2:L2.Inv X pins σ H1 { s1 with heap:=h1 }:=I1.kept (t':=s1.toks) hk;refine wpAny_pyIter_enum he ?_;let n1:s1.heap.objs.size+1≠s1.heap.objs.size:=by omega
  refine⟨s1.heap.objs.size+1,[s1.heap.objs.size+1,s1.heap.objs.size],_,_,H1,rfl,I2,U9 l _ _ n1,⟨⟨_,he⟩,hit⟩,λb hb=>?_,q⟩;let ng:s1.heap.objs.size≤b:=by
   rcases dN.mp hb with rfl|hb
   ·omega
   ·let e:b=s1.heap.objs.size:=by simpa using hb
    exact oa e.symm
  let z:=I1.rK (H':=H1) ng (I1.aH.fresh ng);exact z
def Wa {K:Qzk}{a:Expr}{ta:TA}{p pos pos':Pos}{elts:Qjq} {x1} (hK:X.K=K) (hg:Gl X "enumerate") (hm:X.mg "enumerate" = none) (ha:PA X [a] ta) (hs:starEach [a] X.env=[(false,eval a X.env)]:=by rfl):PI X (.Tuple elts x1 pos') (.Call (.Name "enumerate" p) [a] [] pos) (Em K ta):=by subst hK;exact XW hg hm ha hs
end
abbrev bY(ds:Qzz):Qzz:=ds.mapIdx λi d=>.tup [.int i,d]
def gj(fs:Qqz):Ev→Option (M×Qzz):=λe=>(fs e).bind λl=>match l with
 |[(m,.lst ds)]=>(cf m).map λn=>(n,bY ds)
 |_=>none
section
variable {K:Qzk}{H H' H₀:Hp}{O O':Qzj}{σ:L2.St}{env:Ev}
def Va{a:Addr}{xs:List V}{ds:Qzz}{n:M}(e:fL n=true)(on:∀a o,O a→H a=some o→¬ia o)(hr:(Rd H a (.lst xs)∧¬O a)∨AU K a xs)(r:aB K (NM H₀ O n) H xs ds):lD K H₀ O (GN K a) H n (bY ds):=by
 let st:∀{O2:Qzj}{H2:Hp},aQ O H O2 H2→b0 K H2 a xs:=λ{O2 H2} s=>by
  rcases hr with⟨h|⟨o,h⟩,ha⟩|h
  ·exact .inl (.inl (s _ _ h ha).1)
  ·exact .inl (.inr ⟨o,(s _ _ h ha).1⟩)
  ·exact .inr h
 let l:(bY ds).length=ds.length:=by simp[bY]
 refine⟨λO2 H2 i s hi=>?_,λO2 H2 i x H3 s hi y=>?_,λO2 H2 s=>⟨xs,st s,by rw[r.len,l];exact aW _⟩⟩
 ·rw[l]at hi;exact⟨xs,xs[i]'(by rw[r.len];exact hi),st s,by simp⟩
 ·rw[l]at hi;let⟨t,z,rfl,ht,rfl,y⟩:=y;let y:=y xs (st s);let⟨v,hv,rv⟩:=r.get (i:=i) (d:=ds[i]) (by simp[hi]);rw[y]at hv;cases hv;let sm:aG H2 (upd H2 t (.tup [.int i,z])):=dn ht;let hz:=(Dr e on s rv).keep sm;refine⟨sm,.tup [.int i,ds[i]],by simp[bY,hi],?_⟩;cases n
  ·exact Rp.tup (bC.of bQ) (.cons (.int _) (.cons hz .nil))
  ·exact Rp.tup (bC.of bQ) (.cons (.int _) (.cons hz .nil))
  ·cases e
  ·cases e
  ·cases e
  ·cases e
  ·cases e
  ·cases e
set_option tactic.hygienic true in
def XX{t:TA}{fs:Qqz}(h:iI K t fs):JI K (Em K t) (gj fs):=by
 intro H₀ O H σ env R m ds Re e q;let⟨l,el,e⟩:=aw e;split at e
 ·rename_i m0 d0;cases em:cf m0 with
  |none=>rw[em]at e;cases e
  |some n =>
   rw[em]at e;cases e;refine h H₀ O H σ env _ _ Re el λvs H1 s1 h1=>?_;let⟨v,rfl,hv⟩:=h1.one;let⟨e1,a,xs,rfl,hr,r⟩:=Lh em hv;exact⟨a,xs,rfl,hr.elim (λz=>.inl z.1) .inr,q _ H1 s1 e1 (Va e1 (Re.keep s1).on hr r)⟩
 ·cases e
end
end J
namespace J
open PySem L2
def gk:D→Bool
 |.lst ds=>D.cO ds
 |.dk ks=>D.cO (ks.map (·.2))
 |.dt ks=>D.cO (ks.map (·.2))
 |_=>false
def ic(io:Qxj)(vs:List V)(a:Addr):Prop:=∃i,i∈io∧vs[i]?=some (.ref a)
structure uR (K:Qzk)(H:Hp)(io:Qxj)(vs:List V)(ds:Qzz):Prop where
 len:vs.length=ds.length
 rd:∀(i:Nat) v d,i∉io→vs[i]?=some v→ds[i]?=some d→Rp K (λa=>¬ic io vs a) H v d
 cl:∀(i:Nat) d,i∈io→ds[i]?=some d→∃p,vs[i]?=some (.ref p)∧Cell K (λ_=>False) H p d
 dj:∀(i j:Nat) p,i∈io→j∈io→vs[i]?=some (.ref p)→vs[j]?=some (.ref p)→i=j
def vA(K:Qzk)(n:Nat)(io:Qxj)(F:Qzz→Option (M×D×Qzz)):Sp:=λvs H Q _=>vs.length=n∧∃ds m d outs,uR K H io vs ds∧F ds=some (m,d,outs) ∧
 ∀v H',(∀a o,¬ic io vs a→H a=some o→H' a=some o)→outs.length=io.length→(∀(k i:Nat) o,io[k]?=some i→outs[k]?=some o→∃p,vs[i]?=some (.ref p)∧Cell K (λ_=>False) H' p o)→zc K H H' m d v→Q v H'
abbrev envOf:Fl→Ev
 |.nx e=>e
 |.bk e=>e
 |.ct e=>e
 |.rt e _ _=>e
def collect:Qxj→Ev→Option (Qzz)
 |[],_=>some []
 |i::io,e=>match e[i]? with
  |some (some (.bi,d))=>if gk d=true then (collect io e).bind λr=>some (d::r)else none
  |_=>none
def Oq(io:Qxj)(fl:Fl):Option (M×D×Qzz):=(out fl).bind λx=>(collect io (envOf fl)).bind λo=>some (x.1,x.2,o)
abbrev jj(io:Qxj)(ds:Qzz):Ev:=ds.mapIdx λi d=>some (if i∈io then M.bi else M.al,d)
def rX(L:Nat)(io:Qxj)(g:Qqq):Qzz→Option (M×D×Qzz):=λds=>(g (jj io ds++List.replicate (L-ds.length) none)).bind (Oq io)
section
variable {K:Qzk}{H H' H₀:Hp}{I:Nat→Qxx}{O O':Qzj}{σ:L2.St}{env:Ev}
theorem Cell.im{N N':Qzj}{p:Addr}{d:D}(e:gk d=true)(h:Cell K N H p d):Cell K N' H p d:=by
 cases d<;>simp only[gk]at e<;>try (cases e;done)
 ·let⟨xs,q,r⟩:=h;exact⟨xs,q,r.im e⟩
 ·let⟨xs,q,z,r⟩:=h;exact⟨xs,q,z,r.im e⟩
 ·let⟨xs,q,z,r⟩:=h;exact⟨xs,q,z,r.im e⟩
theorem Iw:∀{io:Qxj}{e:Ev}{r:Qzz},collect io e=some r→r.length=io.length
 |[],_,_,h=>by cases h;rfl
 |i::io,e,r,h=>by
  simp only[collect]at h;split at h
  ·split at h
   ·let⟨r',er,h⟩:=aw h;cases h;rw[gf,gf,Iw er]
   ·cases h
  ·cases h
set_option tactic.hygienic true in
theorem Ja:∀{io:Qxj}{e:Ev}{r:Qzz}{k i:Nat}{o:D},collect io e=some r→io[k]?=some i→r[k]?=some o→e[i]?=some (some (.bi,o))∧gk o=true
 |[],_,_,_,_,_,_,h1,_=>by simp at h1
 |j::io,e,r,k,i,o,h,h1,h2=>by
  simp only[collect]at h;split at h
  ·rename_i d hd;split at h
   ·rename_i hc;let⟨r',er,h⟩:=aw h;cases h;cases k with
    |zero=>simp at h1 h2;subst h1;subst h2;exact⟨hd,hc⟩
    |succ k=>exact Ja er (by simpa using h1) (by simpa using h2)
   ·cases h
  ·cases h
set_option tactic.hygienic true in
def Iy{io:Qxj}{N:Qjz}{vs:List V}{ds:Qzz}(A:uR K H io vs ds):∃I0:Nat→Qxx,(∀{i p},I0 i=some p→i∈io∧vs[i]?=some (.ref p))∧Rel K H I0 (ic io vs) H (L2.start N vs) (jj io ds++List.replicate (N.length-ds.length) none):=by
 refine(let I0:Nat→Qxx:=λi=>if i∈io then (match vs[i]? with|some (.ref p)=>some p|_=>none)else none;?_)
 let lS:∀{i p},I0 i=some p→i∈io∧vs[i]?=some (.ref p):=λ{i p} z=>by
  simp only[I0]at z;split at z
  ·rename_i hi;split at z
   ·rename_i w hw;cases z;exact⟨hi,hw⟩
   ·cases z
  ·cases z
 let Q8:∀{i p},i∈io→vs[i]?=some (.ref p)→I0 i=some p:=λ{i p} hi hv=>by simp only[I0,if_pos hi,hv]
 let uS:∀{i:Nat}{y:M×D},(jj io ds++List.replicate (N.length-ds.length) none)[i]?=some (some y)→ds[i]?=some y.2∧y.1=(if i∈io then M.bi else M.al):=λ{i y} z=>by
  rw[List.getElem?_append]at z;split at z
  ·rename_i hi;simp only[jj,List.getElem?_mapIdx,List.length_mapIdx]at z hi;rw[dC hi]at z ⊢;simp only[Option.map_some,Option.some.injEq]at z;subst z;exact⟨rfl,rfl⟩
  ·have:=dO z;have:=Ao this;cases this
 let zM:∀{i:Nat}{v:V},vs[i]?=some v→(L2.start N vs)[i]?=some (some v):=λ{i v} z=>by
  unfold L2.start;let hi:i<vs.length:=(a9.mp z).1;rw[p8 (by simpa using hi),cA,z];rfl
 refine⟨I0,lS,?_⟩;show Rel K H I0 (ic io vs) H (L2.start N vs) (jj io ds++List.replicate (N.length-ds.length) none);refine⟨⟨kZ ?_ ?_,?_,λa o e=>⟨o,e⟩,?_⟩,λa o _ e=>e,?_,?_,?_,?_⟩
 ·unfold L2.start jj;simp[A.len]
 ·intro j y z hy hz m' d' ey;subst ey;let⟨hd,hm⟩:=uS hy;let hj:j<vs.length:=by rw[A.len];exact(a9.mp hd).1
  let hv:vs[j]?=some vs[j]:=dC hj;rw[zM hv]at hz;cases hz;simp only at hm hd;by_cases hi:j∈io
  ·rw[if_pos hi]at hm;subst hm;let⟨p,hp,c⟩:=A.cl j d' hi hd;rw[hv]at hp;refine⟨rfl,_,rfl,p,eC hp,⟨j,hi,by rw[hv,hp]⟩,c.wk λ_ z _=>z.elim⟩
  ·rw[if_neg hi]at hm;subst hm;exact⟨rfl,_,rfl,A.rd j _ d' hi hv hd⟩
 ·rintro a ⟨i,hi,hv⟩;let aX:i<ds.length:=by rw[←A.len];exact(a9.mp hv).1
  let⟨p,hp,c⟩:=A.cl i ds[i] hi (dC aX);rw[hv]at hp;cases hp;let⟨o,eo,_⟩:=c.some;exact⟨o,eo⟩
 ·rintro a o ⟨i,hi,hv⟩ eo;let aX:i<ds.length:=by rw[←A.len];exact(a9.mp hv).1
  let⟨p,hp,c⟩:=A.cl i ds[i] hi (dC aX);rw[hv]at hp;cases hp;let⟨o',Q9,nt⟩:=c.some;rw[eo]at Q9;cases Q9;exact nt
 ·rintro a ⟨i,hi,hv⟩;exact .inl ⟨i,Q8 hi hv⟩
 ·intro i d' p h1 p1;let⟨hd,hm⟩:=uS h1;by_cases hi:i∈io
  ·let⟨p',hp,_⟩:=A.cl i d' hi hd;rw[zM hp]at p1;cases p1;exact Q8 hi hp
  ·rw[if_neg hi]at hm;cases hm
 ·intro i j y z p h1 h2 o1 o2 p1 p2;let⟨d1,m1⟩:=uS h1;let⟨d2,m2⟩:=uS h2;let hi:i∈io:=by
   by_cases hi:i∈io
   ·exact hi
   ·rw[if_neg hi]at m1;rw[m1]at o1;cases o1
  let hj:j∈io:=by
   by_cases hj:j∈io
   ·exact hj
   ·rw[if_neg hj]at m2;rw[m2]at o2;cases o2
  let⟨q1,Ra,_⟩:=A.cl i _ hi d1;let⟨q2,qi,_⟩:=A.cl j _ hj d2;rw[zM Ra]at p1;cases p1;rw[zM qi]at p2;cases p2;exact A.dj i j p hi hj Ra qi
 ·let no:∀{i:Nat}{d:D},(jj io ds++List.replicate (N.length-ds.length) none)[i]?=some (some (M.nb,d))→False:=λ{i d} z=>by
   let⟨_,hm⟩:=uS z;simp only at hm;split at hm<;>cases hm
  exact⟨λi j d d' h1=>(no h1).elim,λi j d x p q xs h1=>(no h1).elim⟩
def Vb{ts:TS}{g:Qqq}{n:Nat}{io:Qxj}{N:Qjz}{vs:List V}{Q:VK}{E:XK}(h:JS K ts g)(hs:vA K n io (rX N.length io g) vs H Q E):ts { nx:=λ_ H'=>Q .non H',rt:=Q } (L2.start N vs) H:=by
 let⟨hl,ds,m,d,outs,A,e,q⟩:=hs;let⟨fl,ef,eo⟩:=aw e;let⟨x,ex,eo⟩:=aw eo;let⟨oo,ec,eo⟩:=aw eo;cases eo;let⟨I0,lS,R⟩:=Iy (N:=N) A;let fin:∀(O':Qzj) (H':Hp) (σ':L2.St) (v:V),Rel K H I0 O' H' σ' (envOf fl)→zc K H H' x.1 x.2 v→Q v H':=by
  intro O' H' σ' v R' ro;refine q v H' (λa o n e=>R'.fr a o (λi z=>n ⟨i,(lS z).1,(lS z).2⟩) e) (Iw ec) (λk i o h1 h2=>?_) ro;let⟨he,hc⟩:=Ja ec h1 h2;let⟨w,hw,_,p,rfl,_,c⟩:=R'.e.at he;have:=R'.ba i o p he hw;exact⟨p,(lS this).2,c.im hc⟩
 refine h H I0 (ic io vs) H _ _ _ fl R ef ?_;cases fl with
 |nx e'=>cases ex;exactλO' H' σ' R' st=>fin O' H' σ' .non R' Rp.non
 |bk e'=>cases ex
 |ct e'=>cases ex
 |rt e' m' d' =>
  intro O' H' σ' v R' st hv;refine fin O' H' σ' v R' ?_;cases m'<;>simp only[out]at ex
  ·split at ex
   ·rename_i hi;cases ex;exact(show Rp K _ H' v d' from hv.weak.im hi)
   ·cases ex
  ·cases ex;exact(show Rp K _ H' v d' from Rp.wk (λa h _=>h.2) hv)
  ·cases ex;let⟨p,rfl,_,h0,_,c⟩:=hv;exact⟨p,rfl,h0,c.wk λa h _=>⟨h.1.2,h.2⟩⟩
  ·cases ex;let⟨p,rfl,hO,h0,c⟩:=hv;exact⟨p,rfl,h0,c.wk λa h _=>⟨h.2,λz=>h.1 (z▸hO)⟩⟩
  ·cases ex
  ·cases ex;exact(show Rp K _ H' v d' from hv)
  ·cases ex;exact(show Rp K _ H' v d' from jt.rp (λ_ z=>z) hv)
  ·cases ex;exact(show fj K _ H' d' v from fj.wk (λq z=>z.2.1) hv)
end
section
variable {K:Qzk}{H H' H₀:Hp}{I:Nat→Qxx}{O O':Qzj}{σ:L2.St}{env:Ev}
def Rel.adP{env':Ev}{P:Qzj}(R:Rel K H₀ I O H σ env)(hP:∀a,P a→O a)(hW:∀a,P a→∃(j:Nat) (x:M×D),env[j]?=some (some x)∧own x.1=true∧σ[j]?=some (some (.ref a)))(kp:∀a o,¬P a→H a=some o→H' a=some o)(cs:∀a,P a→∃o,H' a=some o∧¬ia o)(hl:env'.length=env.length)
  (sl:∀(j:Nat) x',env'[j]?=some (some x')→(env[j]?=some (some x')∧∀p,own x'.1=true→σ[j]?=some (some (.ref p))→¬P p) ∨
   (∃d p,env[j]?=some (some (x'.1,d))∧own x'.1=true∧σ[j]?=some (some (.ref p))∧Cell K (λa=>¬O a∧H₀ a=none) H' p x'.2)) :
  Rel K H₀ I O H' σ env'∧aQ O H O H':=by
 let kN:∀{N:Qzj},(∀a,N a→¬O a)→Keeps N H H':=λw a u h z=>kp a u (λhp=>by
  rcases z with z|z
  ·exact w a z (hP a hp)
  ·exact R.e.on a u (hP a hp) h z) h
 let old:∀{j:Nat}{x':M×D},env'[j]?=some (some x')→∃d,env[j]?=some (some (x'.1,d)):=λ{j x'} h=>by
  rcases sl j x' h with⟨q,_⟩|⟨d,p,q,_⟩
  ·exact⟨x'.2,q⟩
  ·exact⟨d,q⟩
 let Rb:∀{j:Nat}{d:D}{p:Addr}{xs:List V},env[j]?=some (some (.nb,d))→σ[j]?=some (some (.ref p))→H p=some (.lst xs)→∀a,P a→a≠p∧V.ref a∉xs:=λ{j d p xs} h1 h2 h3 a ha=>by
  let⟨j',x,e1,e2,e3⟩:=hW a ha;exact R.nd.2 j j' d x p a xs h1 h2 e1 e2 e3 h3
 let wF:∀{j:Nat}{d:D},env'[j]?=some (some (.nb,d))→env[j]?=some (some (.nb,d)):=λ{j d} h=>by
  rcases sl j (.nb,d) h with⟨q,_⟩|⟨d0,p,q,ow,_⟩
  ·exact q
  ·cases ow
 refine⟨⟨⟨kZ (by rw[hl];exact cM R.e.sl) ?_,?_,?_,?_⟩,?_,R.ow,?_,?_,?_⟩,?_⟩
 ·intro j y z hy hz m d ey;subst ey;rcases sl j (m,d) hy with⟨q,np⟩|⟨d0,p,q,ow,hp,c⟩
  ·let⟨v,hv,n,hm⟩:=R.e.at q;rw[hz]at hv;cases hv;refine⟨n,v,rfl,?_⟩;cases m
   ·exact Rp.keep (kN λa h=>h) hm
   ·exact Rp.keep (kN λa h=>h.1) hm
   ·cases n
   ·let⟨p,rfl,h1,h2,c⟩:=hm;let⟨o,eo,_⟩:=c.some;exact⟨p,rfl,h1,h2,c.keep (kN λa h=>h.1) ((kp p o (np p rfl hz) eo).trans eo.symm)⟩
   ·let⟨p,rfl,h1,c⟩:=hm;let⟨o,eo,_⟩:=c.some;exact⟨p,rfl,h1,c.keep (kN λa h=>h.1) ((kp p o (np p rfl hz) eo).trans eo.symm)⟩
   ·cases n
   ·let⟨p',qs,aS,rfl,e2,h1,h2,h3,h4,h5,h6⟩:=hm;let nb:=Rb q hz h3;exact⟨p',qs,aS,rfl,e2,h1,h2,kp _ _ (λz=>(nb _ z).1 rfl) h3,h4,h5,lh (λx ds hx ⟨xs,a,r⟩=>⟨xs,kp _ _ (λz=>(nb _ z).2 (bP.mpr ⟨x,hx,rfl⟩)) a,r.keep (kN λa h=>h.1)⟩) h6⟩
   ·cases n
  ·let⟨v,hv,n,hm⟩:=R.e.at q;rw[hz]at hp hv;cases hp;cases hv;refine⟨n,_,rfl,?_⟩;simp only at c ow;cases m<;>simp only[own]at ow<;>try (cases ow;done)
   ·let⟨p',e,h1,h2,_⟩:=hm;cases e;exact⟨p,rfl,h1,h2,c⟩
   ·let⟨p',e,h1,_⟩:=hm;cases e;exact⟨p,rfl,h1,c⟩
 ·intro a ha;by_cases z:P a
  ·let⟨o,e,_⟩:=cs a z;exact⟨o,e⟩
  ·let⟨o,e⟩:=R.e.od a ha;exact⟨o,kp a o z e⟩
 ·intro a o h;let⟨o',e⟩:=R.e.hd a o h;by_cases z:P a
  ·let⟨o,e,_⟩:=cs a z;exact⟨o,e⟩
  ·exact⟨o',kp a o' z e⟩
 ·intro a o ha e;by_cases z:P a
  ·let⟨o',e',n⟩:=cs a z;rw[e]at e';cases e';exact n
  ·let⟨o',e'⟩:=R.e.od a ha;have:=kp a o' z e';rw[e]at this;cases this;exact R.e.on a _ ha e'
 ·intro a o n h;refine kp a o (λz=>?_) (R.fr a o n h);rcases R.ow a (hP a z) with⟨i,q⟩|q
  ·exact n i q
  ·rw[h]at q;cases q
 ·intro i d p h1 p1;let⟨d0,q⟩:=old h1;exact R.ba i d0 p q p1
 ·intro i j x y p h1 h2 o1 o2 p1 p2;let⟨d1,q1⟩:=old h1;let⟨d2,q2⟩:=old h2;exact R.dj i j _ _ p q1 q2 o1 o2 p1 p2
 ·refine⟨λi j d d' h1 h2=>R.nd.1 i j d d' (wF h1) (wF h2),λi j d x p q xs h1 p1 h2 o2 p2 e=>?_⟩;let⟨qs,aS,_,_,_,e3,_⟩:=R.e.nest (wF h1) p1;let nb:=Rb (wF h1) p1 e3;let e4:=kp _ _ (λz=>(nb _ z).1 rfl) e3;rw[e4]at e;cases e;let⟨d2,q2⟩:=old h2;exact R.nd.2 i j d (x.1,d2) p q _ (wF h1) p1 q2 o2 p2 e3
 ·intro a o h n;exact⟨kp a o (λz=>n (hP a z)) h,n⟩
def kK(K:Qzk)(ta:TA)(fs:Qqz)(pos:List (Nat×Nat)):Prop :=
 ∀H₀ O H σ env Q ay,fm K H₀ O H σ env→fs env=some ay→(∀vs H',aG H H'→gK K H₀ O H H' ay vs→(∀ij∈pos,∃v x,vs[ij.1]?=some v∧σ[ij.2]?=some (some v)∧env[ij.2]?=some (some x)∧ay[ij.1]?=some x)→Q vs H')→ta σ H Q
def XY:kK K mI ai []:=by
 intro H₀ O H σ env Q ay R h q;cases h;exact q [] H (aG.refl H) .nil (λ_ z=>nomatch z)
abbrev AZ(pos:List (Nat×Nat)):List (Nat×Nat):=pos.map λij=>(ij.1+1,ij.2)
def Wb{te:TE}{ta:TA}{f:Qqj}{g:Qqz}{pos:List (Nat×Nat)}(hf:JT K te f)(hg:kK K ta g pos):kK K (nF te ta) (ag f g) (AZ pos):=by
 intro H₀ O H σ env Q ay R h q;let⟨x,ex,h⟩:=aw h;let⟨r,er,h⟩:=aw h;cases h;refine hf H₀ O H σ env _ x.1 x.2 R ex λv H1 s1 h1=>?_;refine hg H₀ O H1 σ env _ r (R.keep s1) er λvs H2 s2 h2 hp=>?_;refine q (v::vs) H2 (s1.trans s2) (.cons (h1.keep s2) (nJ (λ_ _ z=>z.hb λa z=>s1.free z) h2)) (λij qt=>?_);let⟨GQ,hm,rfl⟩:=bP.mp qt;let⟨w,y,a,b,c,d⟩:=hp GQ hm;exact⟨w,y,by simpa using a,b,c,by simpa using d⟩
def XZ{i:Nat}{ta:TA}{g:Qqz}{pos:List (Nat×Nat)}(hg:kK K ta g pos):kK K (nF (iw i) ta) (ag (jV i) g) ((0,i)::AZ pos):=by
 intro H₀ O H σ env Q ay R h q;let⟨x,ex,h⟩:=aw h;let⟨r,er,h⟩:=aw h;cases h;let ei:env[i]?=some (some x):=by
  unfold jV at ex;cases e:env[i]? with
  |none=>rw[e]at ex;cases ex
  |some z=>rw[e]at ex;exact de some ex
 let⟨v,hv,n,hm⟩:=R.at ei;refine⟨v,hv,?_⟩;refine hg H₀ O H σ env _ r R er λvs H2 s2 h2 hp=>?_;refine q (v::vs) H2 s2 (.cons ((hm.Oi n).keep s2) h2) (λij qt=>?_);rcases dN.mp qt with rfl|qt
 ·exact⟨v,x,rfl,hv,ei,rfl⟩
 ·let⟨GQ,hm,rfl⟩:=bP.mp qt;let⟨w,y,a,b,c,d⟩:=hp GQ hm;exact⟨w,y,by simpa using a,b,c,by simpa using d⟩
abbrev mD:Qxj→Qzz→Ev→Option Ev
 |[],[],e=>some e
 |j::sl,o::outs,e=>match e[j]? with
  |some (some (m,_))=>mD sl outs (e.set j (some (m,o)))
  |_=>none
 |_,_,_=>none
end
section
variable {K:Qzk}{H H' H₀:Hp}{I:Nat→Qxx}{O O':Qzj}{σ:L2.St}{env:Ev}
theorem gK.at{Hb:Hp}:∀{ay:List (M×D)}{vs:List V}{i:Nat}{x:M×D},gK K H₀ O Hb H ay vs→ay[i]?=some x→∃v,vs[i]?=some v∧Val K H₀ O Hb H x.1 x.2 v
 |_,_,_,_,.nil,e=>by simp at e
 |_,_,0,_,.cons h _,e=>by simp at e;subst e;exact⟨_,rfl,h⟩
 |_,_,i+1,x,.cons _ r,e=>by
  let⟨v,h1,h2⟩:=gK.at (i:=i) (x:=x) r (by simpa using e);exact⟨v,by simpa using h1,h2⟩
theorem uk{α:Type}:∀{l:List α}{i j:Nat}{a:α},l.Nodup→l[i]?=some a→l[j]?=some a→i=j
 |[],_,_,_,_,h,_=>by simp at h
 |x::l,0,0,_,_,_,_=>rfl
 |x::l,0,j+1,a,nd,h1,h2=>by
  simp at h1;subst h1;exact absurd (dO (show l[j]?=some x by simpa using h2)) (kj.mp nd).1
 |x::l,i+1,0,a,nd,h1,h2=>by
  simp at h2;subst h2;exact absurd (dO (show l[i]?=some x by simpa using h1)) (kj.mp nd).1
 |x::l,i+1,j+1,a,nd,h1,h2=>by
  rw[uk (kj.mp nd).2 (show l[i]?=some a by simpa using h1) (by simpa using h2)]
theorem JF:∀{sl:Qxj}{outs:Qzz}{e e':Ev},mD sl outs e=some e'→e'.length=e.length∧outs.length=sl.length
 |[],[],_,_,h=>by cases h;exact⟨rfl,rfl⟩
 |[],_::_,_,_,h=>by cases h
 |_::_,[],_,_,h=>by cases h
 |j::sl,o::outs,e,e',h=>by
  simp only[mD]at h;split at h
  ·have:=JF h;rw[gd]at this;exact⟨this.1,by rw[gf,gf,this.2]⟩
  ·cases h
theorem C3:∀{sl:Qxj}{outs:Qzz}{e e':Ev}{i:Nat},mD sl outs e=some e'→i∉sl→e'[i]?=e[i]?
 |[],[],_,_,_,h,_=>by cases h;rfl
 |[],_::_,_,_,_,h,_=>by cases h
 |_::_,[],_,_,_,h,_=>by cases h
 |j::sl,o::outs,e,e',i,h,hn=>by
  simp only[mD]at h;split at h
  ·rw[C3 h (λz=>hn (c9 _ z)),eR (λz=>hn (by rw[z];exact cg))]
  ·cases h
set_option tactic.hygienic true in
theorem Kk:∀{sl:Qxj}{outs:Qzz}{e e':Ev}{k j:Nat},mD sl outs e=some e'→sl.Nodup→sl[k]?=some j→∃m d o,e[j]?=some (some (m,d))∧outs[k]?=some o∧e'[j]?=some (some (m,o))
 |[],_,_,_,_,_,_,_,h1=>by simp at h1
 |_::_,[],_,_,_,_,h,_,_=>by cases h
 |i::sl,o::outs,e,e',k,j,h,nd,h1=>by
  simp only[mD]at h;split at h
  ·rename_i m d hd;let⟨n1,n2⟩:=kj.mp nd;cases k with
   |zero =>
    simp at h1;subst h1;refine⟨m,d,o,hd,rfl,?_⟩;rw[C3 h n1];let hi:i<e.length:=(a9.mp hd).1;rw[List.getElem?_set_self hi]
   |succ k =>
    let Rc:sl[k]?=some j:=by simpa using h1
    let⟨m',d',o',a,b,c⟩:=Kk h n2 Rc;let hj:i≠j:=λz=>n1 (z▸dO Rc);rw[eR hj]at a;exact⟨m',d',o',a,by simpa using b,c⟩
  ·cases h
structure Pq (io sl:Qxj)(pos:List (Nat×Nat))(ay:List (M×D)):Prop where
 c1:∀(k i:Nat),io[k]?=some i→∃j,sl[k]?=some j∧(i,j)∈pos
 c2:sl.Nodup
 c3:∀(i:Nat) x,i∉io→ay[i]?=some x→ib x.1 x.2=true∨(own x.1=true∧∃j,(i,j)∈pos∧j∉sl)
 c4:∀(i:Nat) x,i∈io→ay[i]?=some x→own x.1=true∧gk x.2=true
 c5:sl.length=io.length
def jJ(io sl:Qxj)(pos:List (Nat×Nat))(ay:List (M×D)):Bool :=
 decide (sl.length=io.length)&&decide sl.Nodup&&(List.range io.length).all (λk=>match io[k]?,sl[k]? with|some i,some j=>decide ((i,j)∈pos)|_,_=>false) &&
 (List.range ay.length).all (λi=>match ay[i]? with
  |some x=>if i∈io then own x.1&&gk x.2 else ib x.1 x.2||(own x.1&&pos.any λij=>decide (ij.1=i)&&!decide (ij.2∈sl))
  |none=>true)
def M7{io sl:Qxj}{pos:List (Nat×Nat)}{ay:List (M×D)}(h:jJ io sl pos ay=true):Pq io sl pos ay:=by
 unfold jJ at h;simp only[Bool.and_eq_true,decide_eq_true_eq,List.all_eq_true,List.mem_range]at h;let⟨⟨⟨h1,h2⟩,h3⟩,h4⟩:=h;refine⟨λk i hk=>?_,h2,λi x hi hx=>?_,λi x hi hx=>?_,h1⟩
 ·let aX:k<io.length:=(a9.mp hk).1;let q:=h3 k aX;rw[hk]at q;cases e:sl[k]? with
  |none=>rw[e]at q;cases q
  |some j=>rw[e]at q;exact⟨j,rfl,by simpa using q⟩
 ·let aX:i<ay.length:=(a9.mp hx).1;let q:=h4 i aX;rw[hx]at q;simp only[if_neg hi,Bool.or_eq_true,Bool.and_eq_true,List.any_eq_true]at q;rcases q with q|⟨q,ij,hm,z⟩
  ·exact .inl q
  ·refine .inr ⟨q,ij.2,?_,by simpa using z.2⟩;let e:ij.1=i:=by simpa using z.1
   rw[←e];exact hm
 ·let aX:i<ay.length:=(a9.mp hx).1;let q:=h4 i aX;rw[hx]at q;simpa only[if_pos hi,Bool.and_eq_true]using q
def Lr{io sl:Qxj}{pos:List (Nat×Nat)}{ay:List (M×D)}{vs:List V}{H1:Hp}(R:Rel K H₀ I O H σ env)(R1:Rel K H₀ I O H1 σ env)(ok:Pq io sl pos ay)(hv:gK K H₀ O H H1 ay vs)
  (hp:∀ij∈pos,∃v x,vs[ij.1]?=some v∧σ[ij.2]?=some (some v)∧env[ij.2]?=some (some x)∧ay[ij.1]?=some x) :
  (∀{i j:Nat},(i,j)∈pos→∀{x:M×D},ay[i]?=some x→own x.1=true→∃p:Addr,vs[i]?=some (V.ref p)∧σ[j]?=some (some (V.ref p))∧env[j]?=some (some x)∧O p∧Cell K (λa=>¬O a∧H₀ a=none) H1 p x.2) ∧
  (∀{i:Nat}{p:Addr},i∈io→vs[i]?=some (V.ref p)→∃(k j:Nat) (x:M×D),io[k]?=some i∧sl[k]?=some j∧ay[i]?=some x∧σ[j]?=some (some (V.ref p))∧env[j]?=some (some x)∧own x.1=true∧O p∧Cell K (λa=>¬O a∧H₀ a=none) H1 p x.2∧gk x.2=true) ∧
  (∀a,ic io vs a→O a)∧uR K H1 io vs (ay.map (·.2)):=by
 let hlen:ay.length=vs.length:=cM hv;let at_:∀{i:Nat}{x:M×D},ay[i]?=some x→∃v,vs[i]?=some v∧Val K H₀ O H H1 x.1 x.2 v:=λ{i x} hx=>gK.at hv hx;let pQ:∀{i j:Nat},(i,j)∈pos→∀{x:M×D},ay[i]?=some x→own x.1=true→∃p:Addr,vs[i]?=some (V.ref p)∧σ[j]?=some (some (V.ref p))∧env[j]?=some (some x)∧O p∧Cell K (λa=>¬O a∧H₀ a=none) H1 p x.2:=λ{i j} qt {x} hx ox=>by
  let⟨v,x',a,b,c,z⟩:=hp (i,j) qt;simp only at a b c z;rw[hx]at z;cases z;let⟨w,hw,_,hm⟩:=R1.e.at (i:=j) (m:=x.1) (d:=x.2) c;rw[b]at hw;cases hw;let⟨mx,dx⟩:=x;cases mx<;>simp only[own]at ox<;>try (cases ox;done)
  ·let⟨p,rfl,h1,h2,cc⟩:=hm;exact⟨p,a,b,c,h1,cc⟩
  ·let⟨p,rfl,h1,cc⟩:=hm;exact⟨p,a,b,c,h1,cc⟩
 let j6:∀{i:Nat}{p:Addr},i∈io→vs[i]?=some (V.ref p)→∃(k j:Nat) (x:M×D),io[k]?=some i∧sl[k]?=some j∧ay[i]?=some x∧σ[j]?=some (some (V.ref p))∧env[j]?=some (some x)∧own x.1=true∧O p∧Cell K (λa=>¬O a∧H₀ a=none) H1 p x.2∧gk x.2=true:=λ{i p} hi i7=>by
  let⟨k,hk⟩:=List.getElem?_of_mem hi;let⟨j,hj,nW⟩:=ok.c1 k i hk;let aX:i<ay.length:=by rw[hlen];exact(a9.mp i7).1
  let hx:ay[i]?=some ay[i]:=dC aX;let⟨ox,cx⟩:=ok.c4 i _ hi hx;let⟨p',a,b,c,h1,cc⟩:=pQ nW hx ox;rw[i7]at a;cases a;exact⟨k,j,_,hk,hj,hx,b,c,ox,h1,cc,cx⟩
 let sub:∀a,ic io vs a→O a:=λa ⟨i,hi,i7⟩=>by
  let⟨_,_,_,_,_,_,_,_,_,h1,_⟩:=j6 hi i7;exact h1
 let A:uR K H1 io vs (ay.map (·.2)):=by
  refine⟨by rw[eU,hlen],λi v d hi i7 hd=>?_,λi d hi hd=>?_,λi j p hi hj h1 h2=>?_⟩
  ·rw[cA]at hd;cases hx:ay[i]? with
   |none=>rw[hx]at hd;cases hd
   |some x =>
    rw[hx]at hd;cases hd;let⟨v',iK,Fd⟩:=at_ hx;rw[i7]at iK;cases iK;rcases ok.c3 i x hi hx with z|⟨z,j,hj,nj⟩
    ·exact(Fd.ib z).wk λa h _=>λw=>h (sub a w)
    ·let⟨p,a,b,c,h1,cc⟩:=pQ hj hx z;rw[i7]at a;cases a;refine(cc.wk λa h _=>(λw=>h.1 (sub a w):¬ic io vs a)).rp (λ⟨i2,GR,GU⟩=>?_);let⟨k,j2,x2,_,GW,_,s2,e2,o2,_⟩:=j6 GR GU;have:=R.dj j j2 x x2 p c e2 z o2 b s2;exact nj (this▸dO GW)
  ·rw[cA]at hd;cases hx:ay[i]? with
   |none=>rw[hx]at hd;cases hd
   |some x =>
    rw[hx]at hd;cases hd;let⟨k,hk⟩:=List.getElem?_of_mem hi;let⟨j,hj,nW⟩:=ok.c1 k i hk;let⟨ox,cx⟩:=ok.c4 i _ hi hx;let⟨p',a,b,c,h1,cc⟩:=pQ nW hx ox;exact⟨p',a,cc.im cx⟩
  ·let⟨k1,j1,x1,k1e,j1e,_,s1',e1',o1,_⟩:=j6 hi h1;let⟨k2,j2,x2,Rf,j2e,_,s2',e2',o2,_⟩:=j6 hj h2;let ej:=R.dj j1 j2 x1 x2 p e1' e2' o1 o2 s1' s2';subst ej;let ek:k1=k2:=uk ok.c2 j1e j2e;subst ek;rw[k1e]at Rf;exact eC Rf
 exact⟨pQ,j6,sub,A⟩
def Dv(io sl:Qxj)(pos:List (Nat×Nat))(F:Qzz→Option (M×D×Qzz))(fs:Qqz):Ev→Option (M×D×Ev):=λe=>(fs e).bind λay=>if jJ io sl pos ay=true then (F (ay.map (·.2))).bind λr=>(mD sl r.2.2 e).bind λe'=>some (r.1,r.2.1,e')else none
def aat{n:Nat}{io sl:Qxj}{pos:List (Nat×Nat)}{F:Qzz→Option (M×D×Qzz)}{fs:Qqz}{ta:TA}{E:XK}{m:M}{d:D}{e':Ev}{Q:VK}(R:Rel K H₀ I O H σ env)(ha:kK K ta fs pos)(hl:∀e ay,fs e=some ay→ay.length=n)
  (h:Dv io sl pos F fs env=some (m,d,e')) (q:∀v H',Rel K H₀ I O H' σ e'→aQ O H O H'→(m=.un∨m=.fr∨m=.ut)→Rp K (λa=>¬O a∧H₀ a=none) H' v d→Q v H'):nG (vA K n io F) [] E ta σ H Q:=by
 let⟨ay,em,h⟩:=aw h;split at h
 ·rename_i hb;let ok:=M7 hb;let⟨⟨m1,d1,outs⟩,eF,h⟩:=aw h;let⟨e1,es,h⟩:=aw h;cases h;refine ha H₀ O H σ env _ ay R.e em λvs H1 s1 hv hp=>?_;let R1:=R.keep s1;let hlen:ay.length=vs.length:=cM hv;let⟨pQ,j6,sub,A⟩:=Lr R R1 ok hv hp;rw[sj];refine⟨by rw[←hlen];exact hl _ _ em,ay.map (·.2),m1,d1,outs,A,eF,λv H2 kp ol oc ro=>?_⟩;let⟨el,eo⟩:=JF es;let cs:∀a,ic io vs a→∃o,H2 a=some o∧¬ia o:=λa ⟨i,hi,i7⟩=>by
   let⟨k,hk⟩:=List.getElem?_of_mem hi;let hko:k<outs.length:=by rw[ol];exact(a9.mp hk).1
   let⟨p,AK,c⟩:=oc k i _ hk (dC hko);rw[i7]at AK;cases AK;exact c.some
  let⟨R2,st⟩:=R1.adP (P:=ic io vs) (env':=e') sub (λa ⟨i,hi,i7⟩=>by
   let⟨k3,j3,x3,_,_,_,s3,e3,o3,_⟩:=j6 hi i7;exact⟨j3,x3,e3,o3,s3⟩) kp cs el (λj x' kJ=>by
   by_cases hj:j∈sl
   ·let⟨k,hk⟩:=List.getElem?_of_mem hj;let⟨m0,d0,o0,a,b,c⟩:=Kk es ok.c2 hk;rw[kJ]at c;cases c;let Rg:k<io.length:=by rw[←ok.c5];exact(a9.mp hk).1
    let wG:io[k]?=some io[k]:=dC Rg;let⟨j',sY,nW⟩:=ok.c1 k _ wG;rw[hk]at sY;cases sY;let⟨p,GX,cell⟩:=oc k _ _ wG b;let Ot:io[k]∈io:=su Rg;let⟨k3,j3,x3,k3e,j3e,_,s3,e3,o3,_⟩:=j6 Ot GX;let aX:io[k]<ay.length:=by rw[hlen];exact(a9.mp GX).1
    let hx:ay[io[k]]?=some ay[io[k]]:=dC aX;let⟨ox,_⟩:=ok.c4 _ _ Ot hx;let⟨p',a',b',c',_⟩:=pQ nW hx ox;rw[GX]at a';cases a';rw[a]at c';let c'':=eC (eC c');refine .inr ⟨d0,p,a,?_,b',cell.wk λ_ z _=>z.elim⟩;rw[←c'']at ox;exact ox
   ·rw[C3 es hj]at kJ;refine .inl ⟨kJ,λp ow hs ⟨i2,GR,GU⟩=>?_⟩;let⟨k,j2,x2,_,GW,_,s2,e2,o2,_⟩:=j6 GR GU;have:=R.dj j j2 x' x2 p kJ e2 ow o2 hs s2;exact hj (this▸dO GW))
  let mm:m1=.un∨m1=.fr∨m1=.ut:=by cases m1<;>first|exact .inl rfl|exact .inr (.inl rfl)|exact .inr (.inr rfl)|exact ro.elim
  let Fd:=Lj (H₀:=H₀) R1.e.od R1.e.hd ro;exact q v H2 R2 ((aQ.same s1).trans st) mm (Fd.cY (by rcases mm with rfl|rfl|rfl<;>rfl))
 ·cases h
def yL(i:Nat)(io sl:Qxj)(pos:List (Nat×Nat))(F:Qzz→Option (M×D×Qzz))(fs:Qqz):Qqq:=λe=>(Dv io sl pos F fs e).bind λr=>some (.nx (r.2.2.set i (some (.fr,r.2.1))))
def Wc{i n:Nat}{io sl:Qxj}{pos:List (Nat×Nat)}{F:Qzz→Option (M×D×Qzz)}{fs:Qqz}{ta:TA}{E:XK}(ha:kK K ta fs pos)(hl:∀e ay,fs e=some ay→ay.length=n):JS K (iy (nG (vA K n io F) [] E ta) (gW i)) (yL i io sl pos F fs):=by
 intro H₀ I O H σ env Ds fl R e q;let⟨⟨m,d,e'⟩,er,e⟩:=aw e;cases e;exact aat R ha hl er λv H' R' st _ hv=>q O H' _ (R'.set_plain (i:=i) (m:=.fr) rfl rfl hv) st
end
mutual
abbrev toPy:D→PyData
 |.non=>.none
 |.bl b=>.bool b
 |.int i=>.int i
 |.str x=>.str x
 |.tup ds=>.tuple (dw ds)
 |.lst ds=>.list (dw ds)
 |.ty _=>.none
 |.dk _=>.none
 |.dt _=>.none
abbrev dw:Qzz→List PyData
 |[]=>[]
 |d::ds=>toPy d::dw ds
end
mutual
abbrev plain:D→Bool
 |.tup ds=>fK ds
 |.lst ds=>fK ds
 |.ty _=>false
 |.dk _=>false
 |.dt _=>false
 |.non=>true
 |.bl _=>true
 |.int _=>true
 |.str _=>true
abbrev fK:Qzz→Bool
 |[]=>true
 |d::ds=>plain d&&fK ds
end
section
variable {K:Qzk}{H H' H₀:Hp}{O O':Qzj}{σ:L2.St}{env:Ev}
def rD{N:Qzj}{v:V}{d:D}(e:plain d=true)(h:Rp K N H v d):Dn K H v (toPy d):=Rp.rec (motive_1:=λv d _=>plain d=true→Dn K H v (toPy d)) (motive_2:=λvs ds _=>fK ds=true→bS K H vs (dw ds)) (λ_=>.non) (λb _=>.bl b) (λi _=>.int i) (λx _=>.str x) (λ_ e=>by cases e) (λh _ r e=>.tup h (r e)) (λh _ _ r e=>.lst (.inl h) (r e)) (λh _ r e=>.lst (.inr h) (r e)) (λ_ _ _ _ _ e=>by cases e) (λ_ _ _ _ _ e=>by cases e) (λ_=>.nil) (λ_ _ h r e=>.cons (h (Bool.and_eq_true_iff.mp e).1) (r (Bool.and_eq_true_iff.mp e).2)) h e
def Ls{N:Qzj}{vs:List V}{ds:Qzz}(e:fK ds=true)(h:aB K N H vs ds):bS K H vs (dw ds):=aB.rec (motive_1:=λv d _=>plain d=true→Dn K H v (toPy d)) (motive_2:=λvs ds _=>fK ds=true→bS K H vs (dw ds)) (λ_=>.non) (λb _=>.bl b) (λi _=>.int i) (λx _=>.str x) (λ_ e=>by cases e) (λh _ r e=>.tup h (r e)) (λh _ _ r e=>.lst (.inl h) (r e)) (λh _ r e=>.lst (.inr h) (r e)) (λ_ _ _ _ _ e=>by cases e) (λ_ _ _ _ _ e=>by cases e) (λ_=>.nil) (λ_ _ h r e=>.cons (h (Bool.and_eq_true_iff.mp e).1) (r (Bool.and_eq_true_iff.mp e).2)) h e
abbrev pw:D→D→Bool
 |.lst _,.lst _=>true
 |.tup _,.tup _=>true
 |.non,.non=>true
 |_,_=>false
def Lv{a b:D}(h:pw a b=true):pH (toPy a) (toPy b):=by
 cases a<;>try (cases h;done)
 all_goals cases b<;>try (cases h;done)
 ·simp only[toPy];exact .non
 ·simp only[toPy];exact .tup _ _
 ·simp only[toPy];exact .lst _ _
def j7(a b:D):Bool:=plain a&&plain b&&pw a b&&decide (min (toPy a).depth (toPy b).depth≤60)
def gB:M×D→M×D→Qzq:=λa b=>if j7 a.2 b.2=true then some (.fr,.bl (PyData.eqv (toPy a.2) (toPy b.2)))else none
def iA:M×D→M×D→Qzq:=λa b=>if j7 a.2 b.2=true then some (.fr,.bl (!PyData.eqv (toPy a.2) (toPy b.2)))else none
def Kl{a b:D}(h:j7 a b=true):plain a=true∧plain b=true∧pw a b=true∧min (toPy a).depth (toPy b).depth≤60:=by
 unfold j7 at h;simp only[Bool.and_eq_true,decide_eq_true_eq]at h;exact⟨h.1.1.1,h.1.1.2,h.1.2,h.2⟩
def M8:JR K (zI K) gB:=by
 intro H₀ O H x y a b Q m d _ _ h1 h2 h q;unfold gB at h;split at h
 ·rename_i ok;cases h;let⟨p1,p2,l,dp⟩:=Kl ok;exact⟨_,_,rD p1 h1.weak,rD p2 h2.weak,Lv l,dp,q _ H (aG.refl H) fE⟩
 ·cases h
def aau:JR K (EZ K) iA:=by
 intro H₀ O H x y a b Q m d _ _ h1 h2 h q;unfold iA at h;split at h
 ·rename_i ok;cases h;let⟨p1,p2,l,dp⟩:=Kl ok;exact⟨_,_,rD p1 h1.weak,rD p2 h2.weak,Lv l,dp,q _ H (aG.refl H) fE⟩
 ·cases h
def aav{X:Cx}(h:X.K=K)(hu:X.A.units+64<cLine):bO X (compareOp .Eq) (zI K):=by subst h;exact MR hu
def aaw{X:Cx}(h:X.K=K)(hu:X.A.units+64<cLine):bO X (compareOp .NotEq) (EZ K):=by subst h;exact ZL hu
def pR(neg:Bool):M×D→M×D→Qzq
 | (_,d),(_,.lst ds)=>if plain d=true∧fK ds=true∧(toPy d).depth≤50 then some (.fr,.bl (if neg then !((dw ds).any λe=>PyData.eqv e (toPy d))else (dw ds).any λe=>PyData.eqv e (toPy d)))else none
 | (_,d),(_,.tup ds)=>if plain d=true∧fK ds=true∧(toPy d).depth≤50 then some (.fr,.bl (if neg then !((dw ds).any λe=>PyData.eqv e (toPy d))else (dw ds).any λe=>PyData.eqv e (toPy d)))else none
 |_,_=>none
def aax{neg:Bool}:JR K (E1 K neg) (pR neg):=by
 intro H₀ O H x y a b Q m d _ _ h1 h2 h q;let⟨ma,da⟩:=a;let⟨mb,db⟩:=b;cases db<;>simp only[pR]at h<;>try (cases h;done)
 ·split at h
  ·rename_i ok;cases h;let⟨p,xs,rfl,hs,r⟩:=h2.tup;exact⟨p,xs,_,_,rfl,.inr hs,Ls ok.2.1 r,rD ok.1 h1.weak,ok.2.2,q _ H (aG.refl H) fE⟩
  ·cases h
 ·split at h
  ·rename_i ok;cases h;let⟨p,xs,rfl,hs,r⟩:=h2.lst;exact⟨p,xs,_,_,rfl,.inl hs,Ls ok.2.1 r,rD ok.1 h1.weak,ok.2.2,q _ H (aG.refl H) fE⟩
  ·cases h
def UA{X:Cx}(h:X.K=K)(hu:X.A.units+64<cLine):bO X (compareOp .NotIn) (E1 K true):=by subst h;exact U1 hu
def aay{n:Nat}{gs:i3}{fs:M→Qzz→Ev→Option Ev}(hs:sW K gs fs):JG K (Pj K n gs) (gL n fs):=by
 intro H₀ I O H σ env x v env' Q R hm hv e q;let⟨m,d⟩:=x;cases d<;>simp only[gL]at e<;>try (cases e;done)
 split at e
 ·rename_i hl;let⟨a,xs,rfl,m8,r⟩:=hv.lst;exact⟨a,xs,rfl,m8,by rw[r.len];exact hl,hs H₀ I O H σ env (bf m) _ xs env' Q R (by cases m<;>first|rfl|cases hm) r e q⟩
 ·cases e
def X1{X:Cx}{tg l:Expr}{tl:TE}(h:X.K=K)(hl:PE X l tl):PI X tg l (EB K tl):=by subst h;exact Zd hl
def TV{X:Cx}(h:X.K=K):iP X (.type "list") (λxs H Q=>∃p ys,xs=[.ref p]∧(b0 K H p ys∨bC K H p ys)∧∀l,H l=none→Q (.ref l) (upd H l (.lst ys))):=by subst h;exact T4
end
def jO{xs:Qzz}(h:xs.length≤1000):iR (xs.map λx=>(M.fr,x))=some (.un,.lst xs):=by
 unfold iR;rw[if_pos (by rw[eU];exact dM h (by decide)),if_pos (by rw[List.all_map];exact lJ.mpr λ_ _=>rfl),gY];congr 3;exact List.map_id xs
def One(d:D):Prop:=∃c:Nat,d=.str ⟨#[c]⟩
def Dw{m n:M}{x:Str}{i:Int}(hs:x.length≤sizeLine)(h0:0≤i)(h1:i<x.cps.toList.length):∃d,au (m,.str x) (n,.int i)=some (.fr,d)∧One d:=by
 rw[acb hs,jh h0 h1];exact⟨_,rfl,_,rfl⟩
noncomputable abbrev Ko:=Sum Int Str
abbrev kD:Ko→D
 |.inl i=>.int i
 |.inr x=>.str x
def qX(k:Ko):(kD k).cB=true:=by cases k<;>simp only[kD,D.cB]
inductive Row where
 |rk (x s:Str) (a b:Ko)|cp (x:Str) (a:Ko)|sy (a:Ko)|go (t:Int)|pt (a:Ko) (t:Int)|en
abbrev Row.ds:Row→Qzz
 |.rk x s a b=>[.str "reckon",.str x,.str s,kD a,kD b]
 |.cp x a=>[.str "copy",.str x,kD a]
 |.sy a=>[.str "say",kD a]
 |.go t=>[.str "go",.int t]
 |.pt a t=>[.str "part",kD a,.int t]
 |.en=>[.str "end"]
abbrev Row.d(r:Row):D:=.tup r.ds
theorem Row.cB(r:Row):r.d.cB=true:=by cases r<;>simp only[Row.d,Row.ds,D.cB,D.cO,qX,Bool.and_self]
theorem oU:∀rs:List Row,D.cO (rs.map Row.d)=true
 |[]=>by simp only[List.map_nil,D.cO]
 |r::rs=>by simp only[List.map_cons,D.cO,Row.cB,oU rs,Bool.and_self]
abbrev Row.word:Row→Str
 |.rk _ _ _ _ => "reckon"
 |.cp _ _ => "copy"
 |.sy _ => "say"
 |.go _ => "go"
 |.pt _ _ => "part"
 |.en => "end"
def Row.at0(r:Row):L2.bp r.ds 0=some (.str r.word):=by cases r<;>rfl
def Wf{ns:Qjz}{k:Int}(h0:0≤k)(h1:k<ns.length):∃c,L2.bp (ns.map D.str) k=some (.str c):=by
 rw[jh h0 (by simpa using h1)];exact⟨ns[k.toNat]'(by omega),by simp⟩
def Wg{rs:List Row}{k:Int}(h0:0≤k)(h1:k<rs.length):L2.bp (rs.map Row.d) k=some (rs[k.toNat]'(by omega)).d:=by
 rw[jh h0 (by simpa using h1)];simp
section
variable {K:Qzk}{H H' H₀:Hp}{O:Qzj}{σ:L2.St}{env:Ev}
abbrev uT:Qqj:=λ_=>some (.un,.dk [])
def Wh:JT K MH uT:=by
 intro H₀ O H σ env Q m d R h q;cases h;intro p hp;refine q _ _ (dn hp) ⟨p,rfl,hp,k5 R.hd hp,iN R.od hp,[],bQ,rfl,.nil⟩
def aaz{a:Addr}{xs:List V}{ds:Qzz}(w:∀H:Hp,bC K H a xs)(r:∀(N:Qzj) (H:Hp),aB K N H xs ds):JT K (tC (.ref a)) (jC (.tup ds)):=by
 intro H₀ O H σ env Q m d' R h q;cases h;exact q _ H (aG.refl H) (Rp.tup (w H) (r _ H))
theorem Jb{N:Qzj}:∀(ys:Qjz),aB K N H (ys.map V.str) (ys.map D.str)
 |[]=>.nil
 |y::ys=>.cons (.str y) (Jb ys)
end
def X2{u:Value}{y:Str}(h:rH u=some (V.str y)):RelV (.str y) u:=by
 cases u<;>simp only[rH]at h<;>cases h;exact⟨_,rfl⟩
theorem Km:∀{us:Qxz}{ys:Qjz},us.map rH=ys.map (λy=>some (V.str y))→Vals (ys.map V.str) us
 |[],[],_=>.nil
 |[],_::_,h=>by cases h
 |_::_,[],h=>by cases h
 |u::us,y::ys,h=>by
  rw[dA,dA]at h;exact .cons (X2 (Aq h).1) (Km (Aq h).2)
def X3 {K:Qzk}{a:Addr}{its:Array Value}{n:Nat}{sl:Array (Option Value)}{ys:Qjz} (l:K.lookup a=some ⟨.type "tuple",none,.seq its n,sl⟩) (v:its.toList.map rH=ys.map (λy=>some (V.str y))) (hz:4≤ys.length∧ys.length≤1000) (H:Hp):bC K H a (ys.map V.str):=by
 let r:=Km v;let e:=r.length;simp only[List.length_map,Array.length_toList]at e;exact .inr ⟨_,its,n,l,rfl,rfl,rfl,dM (by omega) (show 1000≤sizeLine by decide),by omega,r⟩
section
variable {K:Qzk}{H H₀:Hp}{O:Qzj}
abbrev wH(z:Str):Qzz:=z.cps.toList.map λc=>.str ⟨#[c]⟩
def Wi{z:Str}:lD K H₀ O (AQ z) H .fr (wH z):=by
 let l:(wH z).length=z.cps.size:=by simp[wH]
 refine⟨λO2 H2 i s hi=>by rw[l]at hi;exact hi,λO2 H2 i x H3 s hi y=>?_,λO2 H2 s=>by rw[l];exact aW z.cps.size⟩;let⟨rfl,c,hc,rfl⟩:=y;refine⟨aG.refl _,.str ⟨#[c]⟩,?_,Rp.str _⟩;unfold wH;rw[cA,n9,hc];rfl
def GY(f:Qqj):Ev→Option (M×Qzz):=λe=>(f e).bind λx=>match x.2 with
 |.str z=>some (.fr,wH z)
 |_=>none
def aaA{t:TE}{f:Qqj}(h:JT K t f):JI K (Pk t) (GY f):=by
 intro H₀ O H σ env R m ds Re e q;let⟨⟨m0,d0⟩,ex,e⟩:=aw e;cases d0<;>simp only at e<;>try (cases e;done)
 cases e;refine h H₀ O H σ env _ _ _ Re ex λv H1 s1 h1=>?_;exact⟨_,h1.str,q _ H1 s1 rfl Wi⟩
end
end J
namespace L2
open PySem
end L2
namespace J
open PySem L2
section
variable {m n:M}{z:Str}{i:Int}{b:Bool}{ds:Qzz}{ks:List (Key×D)}{kt:List (List Key×D)}
def CL:jw [(m,.int i),(n,.ty "int")]=some (.fr,.bl true):=rfl
def Ij:jw [(m,.int i),(n,.ty "bool")]=some (.fr,.bl false):=rfl
end
section
variable {K:Qzk}
end
structure gH (X:Cx)(st:Stmt)(t:TS):Prop where
 go:PS X st t
structure j8 (X:Cx)(ss:List Stmt)(t:TS):Prop where
 go:hU X ss t
section
variable {X:Cx}{st:Stmt}{rest a b body:List Stmt}{t u tb:TS}{e c iter tg o i value:Expr}{te td ty tv:TE}{tc:TT}{g:TG}{wi:TI}{pos pos':Pos}{k:Nat}{x:Str}
def Lw:j8 X [] y4:=⟨W5⟩
def yi(h1:gH X st t)(h2:j8 X rest u):j8 X (st::rest) (nR t u):=⟨Vw h1.go h2.go⟩
def Lx(h1:gH X st t):j8 X [st] t:=⟨W6 h1.go⟩
def yw(he:PE X e te)(hs:swapsWith e none pos.line X.env=pure false:=by rfl):gH X (.Expr e pos) (rq te):=⟨W7 he hs⟩
def yM(he:PE X e te):gH X (.Return (some e) pos) (rJ te):=⟨Y8 he⟩
def Ou(hc:PT X c tc)(ha:j8 X a t)(hb:j8 X b u):gH X (.If c a b pos) (zv tc t u):=⟨abH hc ha.go hb.go⟩
def M9(he:PE X e te)(hg:PG X tg g)(hs:swapsWithSole [tg] e pos.line X.env=pure false:=by rfl)(hw:swappedStores [tg] e X.env=pure none:=by rfl)
 (h1:(assignEach [tg] X.env).map (·.2)=[assign tg X.env]:=by rfl):gH X (.Assign [tg] e pos) (iy te g):=⟨Zb he hg hs hw h1⟩
def aaB{i:Nat}(hN:X.N.Nodup)(hi:X.N[i]?=some x)(hx:Loc X.env.scope x)(he:PE X e te)(hs:swapsWith e (some (.Name x pos')) pos.line X.env=pure false:=by rfl)(hf:X.fn x=true∨X.env.scope.names.lookup x=some .local:=by first|exact .inl rfl|exact .inr rfl|assumption) :
 gH X (.Assign [.Name x pos'] e pos) (iy te (gW i)):=⟨Zc hN hi hx he hs hf⟩
def Wj(hp:PassesOwn (model X.prog X.w) X.A X.env X.xe)(hc:PT X c tc)(hb:j8 X body tb):gH X (.While c body [] pos) (DT tc tb):=⟨Vy hp hc hb.go⟩
def Nb(hp:PassesOwn (model X.prog X.w) X.A X.env X.xe)(hc:X.calm=true)(hi:PI X tg iter wi)(hg:PG X tg g)(hb:j8 X body tb)
 (hs:∀x,foldedSetIterable iter X.env x=pure x:=by intro _;rfl):gH X (.For tg iter body [] pos) (pF wi g tb):=⟨Ze hp hc hi hg hb.go hs⟩
def Dx(hu:X.A.units+1<cLine)(ho:PE X o td)(hi:PE X i ty)(hv:PE X value tv)(hs:swapsWith value (some (.Subscript o i pos')) pos.line X.env=pure false) :
 gH X (.Assign [.Subscript o i pos'] value pos) (u9 td ty tv):=⟨Xl hu ho hi hv hs⟩
def Jc{N':Qjz}{aD:Scope}{ix:Qxj}{elt:Expr}{ifs:Qjq}{px:Pos}{i:Nat}{y:Str}{py vt:Pos}(hN:X.N.Nodup)(GB:X.N[i]?=some y)(hy:X.env.scope.names.lookup y=some .local)(ok:mz X.N N' X.env.scope aD x ix)(hc:X.calm=true)(hi:PI X (.Name x px) iter wi)(gP:∀C s₂ H₂ fp pn,oA (X.cH N' aD C s₂ H₂ fp pn) ifs tc)
 (hX:∀C s₂ H₂ fp pn,PE (X.cH N' aD C s₂ H₂ fp pn) elt te) (GC:swapsWith (.ListComp elt [⟨.Name x px,iter,ifs,0⟩] aD pos) (some (.Name y py)) vt.line X.env=pure true:=by rfl)
 (hs:∀x,foldedSetIterable iter X.env x=pure x:=by intro _;rfl):gH X (.Assign [.Name y py] (.ListComp elt [⟨.Name x px,iter,ifs,0⟩] aD pos) vt) (iy (rA wi ix tc te) (gW i)):=⟨Uw hN GB hy ok hc hi gP hX GC hs⟩
end
abbrev keyOf:D→Option Key
 |.int i=>some (.inl i)
 |.str x=>some (.inr x)
 |.non=>some .non
 |_=>none
abbrev dz{κ:Type}[DecidableEq κ](ks:List (κ×D))(k:κ):Option D:=(ks.find? λkv=>decide (kv.1=k)).map (·.2)
abbrev putD{κ:Type}[DecidableEq κ](ks:List (κ×D))(k:κ)(d:D):List (κ×D) :=
 if (ks.any λkv=>decide (kv.1=k))=true then ks.map (λkv=>if kv.1=k then (kv.1,d)else kv)else ks++[(k,d)]
section
variable {K:Qzk}{H H' H₀:Hp}{I:Nat→Qxx}{O:Qzj}{σ:L2.St}{env:Ev}
def oR{N:Qzj}{d:D}{k:Key}{v:V}(e:keyOf d=some k)(h:Rp K N H v d):v=kV k:=by
 cases d<;>simp only[keyOf]at e<;>cases e
 ·exact h.Lf
 ·exact h.int_inv
 ·exact h.str_inv
def Ent{κ:Type}(K:Qzk)(N:Qzj)(H:Hp)(aj:List (κ×V))(ks:List (κ×D)):Prop:=aj.map (·.1)=ks.map (·.1)∧aB K N H (aj.map (·.2)) (ks.map (·.2))
def Ent.cons_inv{κ:Type}{N:Qzj}{p:κ×V}{aj:List (κ×V)}{q:κ×D}{ks:List (κ×D)}(h:Ent K N H (p::aj) (q::ks)):p.1=q.1∧Rp K N H p.2 q.2∧Ent K N H aj ks:=by
 let⟨e,r⟩:=h;rw[dA,dA]at e r;let⟨e1,e2⟩:=Aq e;cases r with|cons a b=>exact⟨e1,a,e2,b⟩
def Ent.len{κ:Type}{N:Qzj}{aj:List (κ×V)}{ks:List (κ×D)}(h:Ent K N H aj ks):aj.length=ks.length:=by
 have:=de List.length h.1;simpa using this
theorem Ent.val{κ:Type}[DecidableEq κ]{N:Qzj}:∀{aj:List (κ×V)}{ks:List (κ×D)} (k:κ),Ent K N H aj ks→(dz ks k=none∧fG aj k=none)∨∃d v,dz ks k=some d∧fG aj k=some v∧Rp K N H v d
 |[],[],k,_=>.inl ⟨rfl,rfl⟩
 |[],_::_,k,h=>absurd h.len (by simp)
 |_::_,[],k,h=>absurd h.len (by simp)
 |p::aj,q::ks,k,h=>by
  let⟨e,r,t⟩:=h.cons_inv;by_cases z:q.1=k
  ·exact .inr ⟨q.2,p.2,by simp[dz,List.find?_cons,z],yg (e.trans z),r⟩
  ·let e1:dz (q::ks) k=dz ks k:=by simp[dz,List.find?_cons,z]
   rw[e1,yh (λw=>z (e.symm.trans w))];exact Ent.val k t
def Ent.put{κ:Type}[DecidableEq κ]{N:Qzj}{aj:List (κ×V)}{ks:List (κ×D)}{k:κ}{v:V}{d:D}(h:Ent K N H aj ks)(hv:Rp K N H v d):Ent K N H (putK aj k v) (putD ks k d):=by
 let ha:(aj.any λkv=>decide (kv.1=k))=(ks.any λkv=>decide (kv.1=k)):=by
  have:∀{α β:Type} (l:List (α×β)) (f:α→Bool),l.any (λkv=>f kv.1)=(l.map (·.1)).any f:=λl f=>by rw[List.any_map];rfl
  rw[this aj λa=>decide (a=k),this ks λa=>decide (a=k),h.1]
 unfold putK putD;rw[ha];split
 ·let go:∀{aj:List (κ×V)}{ks:List (κ×D)},Ent K N H aj ks→Ent K N H (aj.map λkv=>if kv.1=k then (kv.1,v)else kv) (ks.map λkv=>if kv.1=k then (kv.1,d)else kv):=by
   intro aj
   induction aj with
   |nil=>intro ks h;cases ks with
    |nil=>exact⟨rfl,.nil⟩
    |cons _ _=>exact absurd h.len (by simp)
   |cons p aj ih =>
    intro ks h;cases ks with
    |nil=>exact absurd h.len (by simp)
    |cons q ks =>
     let⟨e,r,t⟩:=h.cons_inv;let⟨i1,i2⟩:=ih t;rw[dA,dA];by_cases z:q.1=k
     ·rw[if_pos z,if_pos (e.trans z)];exact⟨by rw[dA,dA,i1,e],.cons hv i2⟩
     ·rw[if_neg z,if_neg (λw=>z (e.symm.trans w))];exact⟨by rw[dA,dA,i1,e],.cons r i2⟩
  exact go h
 ·exact⟨by rw[km,km,h.1];rfl,by rw[km,km];exact h.2.app (.cons hv .nil)⟩
theorem Val.dk{m:M}{ks:List (Key×D)}{v:V}{Hb:Hp}(h:Val K H₀ O Hb H m (.dk ks) v):∃a aj,v=.ref a∧Rd H a (.dK aj)∧Ent K (NM H₀ O (bf m)) H aj ks:=by
 cases m<;>simp only[Val,Cell]at h
 ·cases h with|dk r n e q=>exact⟨_,_,rfl,r,e,q⟩
 ·cases h with|dk r n e q=>exact⟨_,_,rfl,r,e,q⟩
 ·let⟨p,rfl,_,_,_,xs,q,e,r⟩:=h;exact⟨_,_,rfl,.inl q,e,r.wk λa h _=>h.1⟩
 ·let⟨p,rfl,_,_,xs,q,e,r⟩:=h;exact⟨_,_,rfl,.inl q,e,r⟩
 ·let⟨p,rfl,_,xs,q,e,r⟩:=h;exact⟨_,_,rfl,.inl q,e,r⟩
 ·cases h with|dk r n e q=>exact⟨_,_,rfl,r,e,q⟩
 ·let⟨p,qs,aS,rfl,e2,_⟩:=h;cases e2
 ·let⟨_,_,_,_,e2,_⟩:=h;cases e2
abbrev j9:D→Option (List (Key×D))
 |.dk ks=>some ks
 |_=>none
def Dy{d:D}{ks:List (Key×D)}(h:j9 d=some ks):d=.dk ks:=by cases d<;>simp only[j9]at h<;>cases h;rfl
def pA(fd fk:Qqj):Qqj:=λe=>(fd e).bind λx=>(fk e).bind λy=>(j9 x.2).bind λks=>(keyOf y.2).bind λk=>(dz ks k).bind λd=>some (bf x.1,d)
def X4{td ty:TE}{fd fk:Qqj}(hd:JT K td fd)(hk:JT K ty fk):JT K (Ee td ty) (pA fd fk):=by
 intro H₀ O H σ env Q m d R h q;let⟨x,ex,h⟩:=aw h;let⟨y,ey,h⟩:=aw h;let⟨ks,i9,h⟩:=aw h;let⟨k,ek,h⟩:=aw h;let⟨d',ed,h⟩:=aw h;cases h;refine hd H₀ O H σ env _ x.1 x.2 R ex λv H1 s1 h1=>?_;refine hk H₀ O H1 σ env _ y.1 y.2 (R.keep s1) ey λw H2 s2 h2=>?_;rw[Dy i9]at h1;let⟨a,aj,rfl,rd,en⟩:=(h1.keep s2).dk;obtain rfl:=oR ek h2.weak;rcases en.val k with⟨z,_⟩|⟨d2,v2,z1,z2,r⟩
 ·rw[z]at ed;cases ed
 ·rw[z1]at ed;cases ed;exact⟨a,v2,rfl,.inl ⟨aj,k,rd,rfl,z2.symm⟩,q v2 H2 (s1.trans s2) (Val.el r)⟩
def f6(neg:Bool)(fk fd:Qqj):Qqj:=λe=>(fk e).bind λy=>(fd e).bind λx=>(j9 x.2).bind λks=>(keyOf y.2).bind λk=>some (.fr,.bl (if neg then !(dz ks k).isSome else (dz ks k).isSome))
theorem Ent.isSome{κ:Type}[DecidableEq κ]{N:Qzj}{aj:List (κ×V)}{ks:List (κ×D)}{k:κ}(h:Ent K N H aj ks):(fG aj k).isSome=(dz ks k).isSome:=by
 rcases h.val k with⟨a,b⟩|⟨d,v,a,b,_⟩<;>rw[a,b]<;>rfl
def aaC{td ty:TE}{fd fk:Qqj}(hk:JT K ty fk)(hd:JT K td fd):JT K (EL ty td) (f6 false fk fd):=by
 intro H₀ O H σ env Q m d R h q;let⟨y,ey,h⟩:=aw h;let⟨x,ex,h⟩:=aw h;let⟨ks,i9,h⟩:=aw h;let⟨k,ek,h⟩:=aw h;cases h;refine hk H₀ O H σ env _ y.1 y.2 R ey λw H1 s1 h1=>?_;refine hd H₀ O H1 σ env _ x.1 x.2 (R.keep s1) ex λv H2 s2 h2=>?_;rw[Dy i9]at h2;let⟨a,aj,rfl,rd,en⟩:=h2.dk;obtain rfl:=oR ek h1.weak;refine⟨a,fG aj k,rfl,.inl ⟨aj,k,rd,rfl,rfl⟩,?_⟩;rw[en.isSome];exact q _ H2 (s1.trans s2) fE
def Vc{td ty:TE}{fd fk:Qqj}(hk:JT K ty fk)(hd:JT K td fd):JT K (Dm ty td) (f6 true fk fd):=by
 intro H₀ O H σ env Q m d R h q;let⟨y,ey,h⟩:=aw h;let⟨x,ex,h⟩:=aw h;let⟨ks,i9,h⟩:=aw h;let⟨k,ek,h⟩:=aw h;cases h;refine hk H₀ O H σ env _ y.1 y.2 R ey λw H1 s1 h1=>?_;refine hd H₀ O H1 σ env _ x.1 x.2 (R.keep s1) ex λv H2 s2 h2=>?_;rw[Dy i9]at h2;let⟨a,aj,rfl,rd,en⟩:=h2.dk;obtain rfl:=oR ek h1.weak;refine⟨a,fG aj k,rfl,.inl ⟨aj,k,rd,rfl,rfl⟩,?_⟩;rw[en.isSome];exact q _ H2 (s1.trans s2) fE
def mN(i:Nat)(e:Ev):Option (M×List (Key×D)):=match e[i]? with
 |some (some (m,.dk ds))=>if own m=true then some (m,ds)else none
 |_=>none
def Ly{i:Nat}{e:Ev}{m:M}{ds:List (Key×D)}(h:mN i e=some (m,ds)):e[i]?=some (some (m,.dk ds))∧own m=true:=by
 unfold mN at h;split at h
 ·rename_i e;split at h
  ·cases h;exact⟨e,by assumption⟩
  ·cases h
 ·cases h
def Rel.dct{i:Nat}{m:M}{ds:List (Key×D)}(R:Rel K H₀ I O H σ env)(h:mN i env=some (m,ds)):∃p aj,σ[i]?=some (some (.ref p))∧O p∧H p=some (.dK aj)∧Ent K (λa=>¬O a∧H₀ a=none) H aj ds:=by
 let⟨e,o⟩:=Ly h;let⟨v,hv,n,hm⟩:=R.e.at e;cases m<;>simp only[own]at o<;>try (cases o;done)
 ·let⟨p,rfl,h1,h2,xs,c,z,r⟩:=hm;exact⟨p,xs,hv,h1,c,z,r⟩
 ·let⟨p,rfl,h1,xs,c,z,r⟩:=hm;exact⟨p,xs,hv,h1,c,z,r⟩
def Rel.adQ{i:Nat}{m:M}{ds:List (Key×D)}{p:Addr}{xs ys:List (Key×V)}{es:List (Key×D)}(R:Rel K H₀ I O H σ env)(h:mN i env=some (m,ds))(hp:σ[i]?=some (some (.ref p)))(hx:H p=some (.dK xs))(r:Ent K (λa=>¬O a∧H₀ a=none) H ys es) :
  Rel K H₀ I O (L2.upd H p (.dK ys)) σ (env.set i (some (m,.dk es)))∧aQ O H O (L2.upd H p (.dK ys)):=by
 let⟨e,o⟩:=Ly h;let hO:=(R.oY e o hp).1;exact R.mut e o hp ⟨ys,bQ,r.1,r.2.upd hO hx (λz=>z)⟩
def lA(i:Nat)(fk fe:Qqj):Qqq:=λe=>(fe e).bind λx=>(fk e).bind λy=>(keyOf y.2).bind λk=>if cY x.1 x.2=true then (mN i e).bind λz=>if z.2.length<sizeLine then some (.nx (e.set i (some (z.1,.dk (putD z.2 k x.2)))))else none else none
def X5{i:Nat}{t tk:TE}{f fk:Qqj}(h:JT K t f)(hk:JT K tk fk):JS K (u9 (iw i) tk t) (lA i fk f):=by
 intro H₀ I O H σ env Ds fl R e q;let⟨x,ex,e⟩:=aw e;let⟨y,ey,e⟩:=aw e;let⟨k,ek,e⟩:=aw e;split at e
 ·rename_i hs;let⟨⟨m,ds⟩,ez,e⟩:=aw e;split at e
  ·rename_i hl;cases e;let⟨p,aj,hp,hO,hx,r⟩:=R.dct ez;refine h H₀ O H σ env _ x.1 x.2 R.e ex λv H1 s1 h1=>?_;refine⟨.ref p,hp,?_⟩;refine hk H₀ O H1 σ env _ y.1 y.2 (R.keep s1).e ey λw H2 s2 h2=>?_;obtain rfl:=oR ek h2.weak;let s:=s1.trans s2;refine⟨p,_,rfl,.inl ⟨aj,k,s _ _ hx,rfl,by rw[r.len];exact hl,rfl⟩,?_⟩;let⟨R2,st⟩:=(R.keep s).adQ (ys:=putK aj k v) (es:=putD ds k x.2) ez hp (s _ _ hx) (Ent.put ⟨r.1,r.2.keep (.same s)⟩ ((h1.keep s2).cY hs));exact q O _ σ R2 ((aQ.same s).trans st)
  ·cases e
 ·cases e
def zi(fk fv:Qqj):Qqj:=λe=>(fk e).bind λy=>(fv e).bind λx=>(keyOf y.2).bind λk=>if x.2.cB=true then some (.un,.dk [(k,x.2)])else none
def X6{tk tv:TE}{fk fv:Qqj}(hk:JT K tk fk)(hv:JT K tv fv):JT K (Oh [(tk,tv)]) (zi fk fv):=by
 intro H₀ O H σ env Q m d R h q;let⟨y,ey,h⟩:=aw h;let⟨x,ex,h⟩:=aw h;let⟨k,ek,h⟩:=aw h;split at h
 ·rename_i Rh;cases h;intro p hp;let s0:aG H (upd H p (.dK [])):=dn hp;refine hk H₀ O _ σ env _ y.1 y.2 (R.keep s0) ey λw H1 s1 h1=>?_;refine hv H₀ O H1 σ env _ x.1 x.2 ((R.keep s0).keep s1) ex λv H2 s2 h2=>?_;obtain rfl:=oR ek h1.weak;let qi:H2 p=some (.dK []):=s2 _ _ (s1 _ _ bQ);refine⟨qi,[(k,v)],rfl,by show 1≤15;decide,?_⟩;let sm:aG H (upd H2 p (.dK (qU [] [(k,v)]))):=λa o e=>by
   rw[aI (eZ e hp)];exact s2 _ _ (s1 _ _ (s0 _ _ e))
  refine q _ _ sm ⟨p,rfl,hp,k5 R.hd hp,iN R.od hp,[(k,v)],bQ,rfl,.cons ?_ .nil⟩;refine(Rp.im (N':=λ_=>False) Rh h2.weak).keep (λa o e z=>?_) |>.im Rh;let gi:a≠p:=by
   rintro rfl;rcases z with z|z
   ·exact z
   ·rw[qi]at e;cases e;exact z
  rw[aI gi];exact e
 ·cases h
end
section
variable {K:Qzk}{H H' H₀:Hp}{I:Nat→Qxx}{O:Qzj}{σ:L2.St}{env:Ev}
def Rel.aaD{i:Nat}{C:Addr}{qs:List Addr}{aS:List (Qzz)}{H1:Hp}(R:Rel K H₀ I O H σ env)(s:aG H H1)(nn:∀(j:Nat) d,j≠i→env[j]?≠some (some (.nb,d)))(hC:H C=none)(hq:∀q∈qs,H q=none∧q≠C)(nd:qs.Nodup)
  (e:H1 C=some (.lst (qs.map V.ref))) (hp:Paired (λq ds=>∃xs,H1 q=some (.lst xs)∧aB K (λa=>¬(O a∨a=C∨a∈qs)∧H₀ a=none) H1 xs ds) qs aS) :
  Rel K H₀ I (λa=>O a∨a=C∨a∈qs) H1 (σ.set i (some (.ref C))) (env.set i (some (.nb,.lst (aS.map D.lst))))∧aQ O H (λa=>O a∨a=C∨a∈qs) H1:=by
 let np:∀a,(∃o,H a=some o)→¬(a=C∨a∈qs):=λa ⟨o,ea⟩ z=>by
  rcases z with rfl|z
  ·rw[hC]at ea;cases ea
  ·rw[(hq a z).1]at ea;cases ea
 let n0:∀a,(a=C∨a∈qs)→H₀ a=none:=λa z=>by
  cases h0:H₀ a with
  |none=>rfl
  |some o=>exact absurd z (np a (R.e.hd a o h0))
 let nO:∀a,(a=C∨a∈qs)→¬O a:=λa z ho=>np a (R.e.od a ho) z;let wk:∀{N:Qzj}{d:D}{v:V},Rp K N H v d→Rp K (λa=>N a∧¬(a=C∨a∈qs)) H1 v d:=λr=>(r.wk λa n e=>⟨n,np a e⟩).keep (.same s);let wz:∀{N:Qzj}{d:D}{q:Addr},Cell K N H q d→Cell K (λa=>N a∧¬(a=C∨a∈qs)) H1 q d:=λ{N d q} r=>by
  let⟨o,e,_⟩:=r.some;exact(r.wk λa n e=>⟨n,np a e⟩).keep (.same s) ((s _ _ e).trans e.symm)
 let GZ:∀{j:Nat}{d:D},(env.set i (some (M.nb,D.lst (aS.map D.lst))))[j]?=some (some (.nb,d))→j=i:=λ{j d} h=>by
  rcases get_set h with⟨z,_⟩|⟨z,q⟩
  ·exact z
  ·exact absurd q (nn j d z)
 let Ri:∀a,(a=C∨a∈qs)→∃o,H1 a=some o∧¬ia o:=λa z=>by
  rcases z with rfl|z
  ·exact⟨_,e,λz=>z⟩
  ·let⟨ds,xs,hx,_⟩:=C2 hp z;exact⟨_,hx,λz=>z⟩
 refine⟨⟨⟨kZ ?_ ?_,?_,?_,?_⟩,?_,?_,?_,?_,?_⟩,?_⟩
 ·rw[gd,gd];exact cM R.e.sl
 ·intro j y x hy hx m d ey;subst ey;rcases get_set hy with⟨rfl,z⟩|⟨nj,q⟩
  ·cases z;rcases get_set hx with⟨_,z⟩|⟨z,_⟩
   ·subst z;exact⟨rfl,_,rfl,C,qs,aS,rfl,rfl,.inr (.inl rfl),n0 C (.inl rfl),e,nd,λq hm=>⟨.inr (.inr hm),n0 q (.inr hm),(hq q hm).2⟩,hp⟩
   ·exact absurd rfl z
  ·rw[eR (λz=>nj z.symm)]at hx;let⟨v,hv,n,z⟩:=R.e.at q;rw[hx]at hv;cases hv;refine⟨n,v,rfl,?_⟩;cases m
   ·exact(wk z).wk λa h _=>λz=>z.elim h.1 h.2
   ·exact(wk z).wk λa h _=>⟨λz=>z.elim h.1.1 h.2,h.1.2⟩
   ·cases n
   ·let⟨q,rfl,h1,h2,c'⟩:=z;exact⟨q,rfl,.inl h1,h2,(wz c').wk λa h _=>⟨λz=>z.elim h.1.1 h.2,h.1.2⟩⟩
   ·let⟨q,rfl,h1,c'⟩:=z;exact⟨q,rfl,.inl h1,(wz c').wk λa h _=>⟨λz=>z.elim h.1.1 h.2,h.1.2⟩⟩
   ·cases n
   ·exact absurd q (nn j d nj)
   ·cases n
 ·intro a ha;rcases ha with ha|ha
  ·let⟨o,e⟩:=R.e.od a ha;exact⟨o,s _ _ e⟩
  ·let⟨o,eo,_⟩:=Ri a ha;exact⟨o,eo⟩
 ·exactλa o h=>let ⟨o,e⟩:=R.e.hd a o h;⟨o,s _ _ e⟩
 ·intro a u ha eu;rcases ha with ha|ha
  ·exact(R.e.keep s).on a u ha eu
  ·let⟨o,eo,nt⟩:=Ri a ha;rw[eu]at eo;cases eo;exact nt
 ·exactλa o n h=>s _ _ (R.fr a o n h)
 ·intro a ha;rcases ha with ha|ha
  ·exact R.ow a ha
  ·exact .inr (n0 a ha)
 ·intro i' d' p' h1 p1;rcases get_set h1 with⟨rfl,q⟩|⟨n1,q1⟩
  ·cases q
  ·rw[eR (λz=>n1 z.symm)]at p1;exact R.ba i' d' p' q1 p1
 ·intro i' j x y q h1 h2 o1 o2 p1 p2;rcases get_set h1 with⟨rfl,q1⟩|⟨n1,q1⟩
  ·cases q1;cases o1
  ·rcases get_set h2 with⟨rfl,q2⟩|⟨n2,q2⟩
   ·cases q2;cases o2
   ·rw[eR (λz=>n1 z.symm)]at p1;rw[eR (λz=>n2 z.symm)]at p2;exact R.dj i' j x y q q1 q2 o1 o2 p1 p2
 ·refine⟨λi' j d1 d2 h1 h2=>(GZ h1).trans (GZ h2).symm,λi' j d1 x p' q xs h1 p1 h2 o2 p2 ex=>?_⟩;let hi:=GZ h1;subst hi;let wI:p'=C:=by
   rcases get_set p1 with⟨_,z⟩|⟨z,_⟩
   ·cases z;rfl
   ·exact absurd rfl z
  subst wI;rw[e]at ex;cases ex;rcases get_set h2 with⟨rfl,z⟩|⟨n2,q2⟩
  ·cases z;cases o2
  ·rw[eR (λz=>n2 z.symm)]at p2;let hO:=(R.oY q2 o2 p2).1;refine⟨λz=>nO q (.inl z) hO,λz=>?_⟩;let⟨a,ha,ea⟩:=bP.mp z;exact nO q (.inr (by cases ea;exact ha)) hO
 ·intro a o h n;exact⟨s a o h,λz=>z.elim n (np a ⟨o,h⟩)⟩
abbrev Fe(i:Nat)(e:Ev):Bool:=(List.range e.length).all λj=>decide (j=i)||(match e[j]? with
 |some (some (.nb,_))=>false
 |_=>true)
def X7{i:Nat}{e:Ev}(h:Fe i e=true)(j:Nat)(d:D)(hj:j≠i):e[j]?≠some (some (.nb,d)):=λz=>by
 let hl:j<e.length:=(a9.mp z).1;have:=lJ.mp h j (iC.mpr hl);rw[z,eQ hj]at this;cases this
def zj(i:Nat)(it:Ev→Option (M×Qzz)):Qqq:=λe=>(it e).bind λy=>if Fe i e=true∧y.2.length<sizeLine then some (.nx (e.set i (some (.nb,.lst ((y.2.map λ_=>([]:Qzz)).map D.lst)))))else none
def X8{i:Nat}{wi:TI}{ix:Qxj}{it:Ev→Option (M×Qzz)}(hi:JI K wi it):JS K (iy (rA wi ix zF (zC mI)) (gW i)) (zj i it):=by
 intro H₀ I O H σ env Ds fl R e q;let⟨⟨mi,ds⟩,ei,e⟩:=aw e;split at e
 ·rename_i hc;let⟨hn,hl⟩:=hc;cases e;refine hi H₀ O H σ env _ mi ds R.e ei λJ H1 s1 hm ok C hC=>?_;refine⟨λk n H2=>n=ds.length-k∧k≤ds.length∧aG H1 H2∧∃qs:List Addr,H2 C=some (.lst (qs.map V.ref))∧qs.length=k∧qs.Nodup∧∀q∈qs,H1 q=none∧q≠C∧H2 q=some (.lst []),⟨_,rfl,jE _,dn hC,[],bQ,rfl,sr,λ_ h=>nomatch h⟩,?_⟩;rintro k n H2 ⟨rfl,hle,s2,qs,Rj,G0,iG,wJ⟩;let bD:aQ O H1 O H2:=aQ.same s2;by_cases aX:k<ds.length
  ·refine .inr ⟨ok.go O H2 k bD aX,λx H3 y=>?_⟩;let⟨s3,_⟩:=ok.ku O H2 k x H3 bD aX y;refine My.adK (σ:=some x::gA σ ix) (H:=H3) (A:=λH3=>zC mI (some x::gA σ ix) H3 _) (B:=λH3=>_) ?_;refine⟨jE _,λp hp=>?_⟩;let c3:H3 C=some (.lst (qs.map V.ref)):=s3 _ _ Rj;let wI:C≠p:=eZ c3 hp;let hpq:p∉qs:=λz=>by rw[s3 _ _ (wJ p z).2.2]at hp;cases hp
   refine⟨qs.map V.ref,by rw[aI wI];exact c3,by rw[eU,G0];exact Nat.lt_trans aX hl,ds.length-(k+1),by omega,rfl,aX,λa o ha=>?_,qs++[p],?_,by rw[fw,G0];rfl,?_,λa ha=>?_⟩
   ·rw[aI (eZ ha hC)];let h3:=s3 _ _ (s2 _ _ ha);rw[aI (eZ h3 hp)];exact h3
   ·rw[bQ,km];rfl
   ·rw[sv];refine⟨iG,by simp,λa ha b hb=>?_⟩;have:b=p:=by simpa using hb
    subst this;exactλz=>hpq (z▸ha)
   ·rcases iD.mp ha with ha|ha
    ·let⟨z1,z2,z3⟩:=wJ a ha;refine⟨z1,z2,?_⟩;let h3:=s3 _ _ z3;rw[aI z2,aI (eZ h3 hp)];exact h3
    ·have:a=p:=by simpa using ha
     subst this;let hn1:H1 a=none:=by
      cases h1:H1 a with
      |none=>rfl
      |some o=>rw[s3 _ _ (s2 _ _ h1)]at hp;cases hp
     exact⟨hn1,λz=>wI z.symm,by rw[aI (λz=>wI z.symm),bQ]⟩
  ·let hk:k=ds.length:=by omega
   subst hk;refine .inl ⟨ok.stop O H2 bD,?_⟩;let pr:∀(qs:List Addr) (ds:Qzz) (N:Qzj),qs.length=ds.length→(∀q∈qs,H2 q=some (.lst []))→Paired (λq (es:Qzz)=>∃xs,H2 q=some (.lst xs)∧aB K N H2 xs es) qs (ds.map λ_=>([]:Qzz)):=by
    intro qs
    induction qs with
    |nil=>intro ds N h _;cases ds with
     |nil=>exact .nil
     |cons _ _=>cases h
    |cons a qs ih=>intro ds N h hh;cases ds with
     |nil=>cases h
     |cons d ds=>exact .cons ⟨[],hh a cg,.nil⟩ (ih ds N (by simpa using h) λq hq=>hh q (c9 _ hq))
   let⟨R',st⟩:=(R.keep s1).aaD (i:=i) (C:=C) (qs:=qs) (aS:=ds.map λ_=>[]) s2 (λj d hj=>X7 hn j d hj) hC (λa ha=>⟨(wJ a ha).1,(wJ a ha).2.1⟩) iG Rj (pr qs ds _ G0 λa ha=>(wJ a ha).2.2);exact q _ H2 _ R' ((aQ.same s1).trans st)
 ·cases e
abbrev rY:Qzz→Option (List (Qzz))
 |[]=>some []
 |.lst d::r=>(rY r).bind λx=>some (d::x)
 |_=>none
theorem Lz:∀{ds:Qzz}{aS:List (Qzz)},rY ds=some aS→ds=aS.map D.lst
 |[],_,h=>by cases h;rfl
 |d::r,aS,h=>by
  cases d<;>simp only[rY]at h<;>try (cases h;done)
  let⟨x,ex,h⟩:=aw h;cases h;rw[Lz ex,dA]
theorem Kn:∀aS:List (Qzz),rY (aS.map D.lst)=some aS
 |[]=>rfl
 |d::r=>by rw[dA,rY,Kn r];rfl
def A4(i:Nat)(e:Ev):Option (List (Qzz)):=match e[i]? with
 |some (some (.nb,.lst ds))=>rY ds
 |_=>none
def aaE{i:Nat}{e:Ev}{aS:List (Qzz)}(h:A4 i e=some aS):e[i]?=some (some (.nb,.lst (aS.map D.lst))):=by
 unfold A4 at h;split at h
 ·rename_i e;rw[e,Lz h]
 ·cases h
theorem Iz:∀{a b:List (Qzz)},a.map D.lst=b.map D.lst→a=b
 |[],[],_=>rfl
 |[],_::_,h=>by cases h
 |_::_,[],h=>by cases h
 |x::a,y::b,h=>by
  rw[dA,dA]at h;let⟨h1,h2⟩:=Aq h;rw[D.lst.inj h1,Iz h2]
theorem JH{F:Addr→Qzz→Prop}:∀{qs:List Addr}{aS:List (Qzz)}{j:Nat}{ds:Qzz},Paired F qs aS→aS[j]?=some ds→∃q,qs[j]?=some q∧F q ds
 |_,_,_,_,.nil,h=>by simp at h
 |_,_,0,_,.cons a t,h=>by simp at h;subst h;exact⟨_,rfl,a⟩
 |_,_,j+1,ds,.cons a t,h=>by
  let⟨q,h1,h2⟩:=JH (j:=j) (ds:=ds) t (by simpa using h);exact⟨q,by simpa using h1,h2⟩
theorem JK{F G:Addr→Qzz→Prop}{es:Qzz}:∀{qs:List Addr}{aS:List (Qzz)}{j:Nat}{q:Addr},qs.Nodup→Paired F qs aS→qs[j]?=some q→G q es→(∀a ds,a∈qs→a≠q→F a ds→G a ds)→Paired G qs (aS.set j es)
 |_,_,_,_,_,.nil,h,_,_=>by simp at h
 |a::qs,ds::aS,0,q,hn,.cons x t,h,g,w=>by
  simp at h;subst h;rw[kj]at hn;exact .cons g (lh (λb es hb hf=>w b es (c9 _ hb) (λz=>hn.1 (z▸hb)) hf) t)
 |a::qs,ds::aS,j+1,q,hn,.cons x t,h,g,w=>by
  rw[kj]at hn;let h':qs[j]?=some q:=by simpa using h
  let hq:q∈qs:=dO h';exact .cons (w a ds cg (λz=>hn.1 (z▸hq)) x) (JK hn.2 t h' g λb es hb=>w b es (c9 _ hb))
def Rel.adR{i:Nat}{aS:List (Qzz)}{p q:Addr}{qs:List Addr}{j:Nat}{xs ys:List V}{es:Qzz}(R:Rel K H₀ I O H σ env)(hx:env[i]?=some (some (.nb,.lst (aS.map D.lst))))(hp:σ[i]?=some (some (.ref p)))
  (h1:O p) (h2:H₀ p=none) (h3:H p=some (.lst (qs.map V.ref))) (h4:qs.Nodup) (h5:∀q∈qs,O q∧H₀ q=none∧q≠p) (h6:Paired (λq ds=>∃xs,H q=some (.lst xs)∧aB K (λa=>¬O a∧H₀ a=none) H xs ds) qs aS)
  (hq:qs[j]?=some q) (eq:H q=some (.lst xs)) (r:aB K (λa=>¬O a∧H₀ a=none) H ys es) :
  Rel K H₀ I O (upd H q (.lst ys)) σ (env.set i (some (.nb,.lst ((aS.set j es).map D.lst))))∧aQ O H O (upd H q (.lst ys)):=by
 let Rk:q∈qs:=dO hq;let⟨qO,q0,qp⟩:=h5 q Rk;let kp:∀{N:Qzj},(∀a,N a→¬O a)→Keeps N H (upd H q (.lst ys)):=λw a u h z=>by
  let gi:a≠q:=by
   rintro rfl;rcases z with z|z
   ·exact w _ z qO
   ·rw[eq]at h;cases h;exact z
  rw[aI gi];exact h
 let hi:i<env.length:=(a9.mp hx).1;let Pr:∀{k:Nat}{x:M×D}{p':Addr},env[k]?=some (some x)→own x.1=true→σ[k]?=some (some (.ref p'))→p'≠q:=λ{k x p'} a b c z=>by
  let⟨_,z2⟩:=R.nd.2 i k _ x p p' _ hx hp a b c h3;exact z2 (bP.mpr ⟨q,Rk,by rw[z]⟩)
 let G3:∀{k:Nat}{d1:D},(env.set i (some (M.nb,D.lst ((aS.set j es).map D.lst))))[k]?=some (some (.nb,d1))→k=i:=λ{k d1} h=>by
  rcases get_set h with⟨z,_⟩|⟨_,z⟩
  ·exact z
  ·exact R.nd.1 k i d1 _ z hx
 refine⟨⟨⟨kZ ?_ ?_,?_,?_,?_⟩,?_,R.ow,?_,?_,?_⟩,?_⟩
 ·rw[gd];exact cM R.e.sl
 ·intro k y x hy wK m d ey;subst ey;rcases get_set hy with⟨rfl,z⟩|⟨nk,z⟩
  ·cases z;rw[hp]at wK;cases wK;refine⟨rfl,_,rfl,p,qs,aS.set j es,rfl,rfl,h1,h2,by rw[aI (λz=>qp z.symm)];exact h3,h4,h5,JK h4 h6 hq ⟨ys,bQ,r.keep (kp λa h=>h.1)⟩ λa ds ha gi ⟨zs,e1,e2⟩=>⟨zs,by rw[aI gi];exact e1,e2.keep (kp λa h=>h.1)⟩⟩
  ·let⟨v,hv,n,hm⟩:=R.e.at z;rw[wK]at hv;cases hv;refine⟨n,v,rfl,?_⟩;cases m
   ·exact Rp.keep (kp λa h=>h) hm
   ·exact Rp.keep (kp λa h=>h.1) hm
   ·cases n
   ·let⟨p',rfl,h1,h2,c'⟩:=hm;exact⟨p',rfl,h1,h2,c'.keep (kp λa h=>h.1) (aI (Pr z rfl wK))⟩
   ·let⟨p',rfl,h1,c'⟩:=hm;exact⟨p',rfl,h1,c'.keep (kp λa h=>h.1) (aI (Pr z rfl wK))⟩
   ·cases n
   ·exact absurd (R.nd.1 k i d _ z hx) nk
   ·cases n
 ·intro a ha;by_cases z:a=q
  ·subst z;exact⟨_,bQ⟩
  ·rw[aI z];exact R.e.od a ha
 ·intro a u h;by_cases z:a=q
  ·subst z;exact⟨_,bQ⟩
  ·rw[aI z];exact R.e.hd a u h
 ·intro a u ha e;by_cases z:a=q
  ·subst z;rw[bQ]at e;cases e;exactλz=>z
  ·rw[aI z]at e;exact R.e.on a u ha e
 ·intro a u n h;let z:a≠q:=by rintro rfl;rw[q0]at h;cases h
  rw[aI z];exact R.fr a u n h
 ·intro i' e' p' g1 p1;rcases get_set g1 with⟨rfl,z⟩|⟨n1,q1⟩
  ·cases z
  ·exact R.ba i' e' p' q1 p1
 ·intro i' k x y a g1 g2 o1 o2 p1 p2;rcases get_set g1 with⟨rfl,z⟩|⟨_,q1⟩
  ·cases z;cases o1
  ·rcases get_set g2 with⟨rfl,z⟩|⟨_,q2⟩
   ·cases z;cases o2
   ·exact R.dj i' k x y a q1 q2 o1 o2 p1 p2
 ·refine⟨λi' k d1 d2 g1 g2=>(G3 g1).trans (G3 g2).symm,λi' k d1 x p' a zs g1 p1 g2 o2 p2 e=>?_⟩;let z:=G3 g1;subst z;rw[hp]at p1;cases p1;rw[aI (λz=>qp z.symm)]at e;rcases get_set g2 with⟨rfl,z⟩|⟨_,q2⟩
  ·cases z;cases o2
  ·exact R.nd.2 i' k _ x p a zs hx hp q2 o2 p2 e
 ·intro a u h n;let z:a≠q:=by rintro rfl;exact n qO
  exact⟨by rw[aI z];exact h,n⟩
def zk(i:Nat)(fk f:Qqj):Qqq:=λe=>(fk e).bind λy=>(pJ y).bind λk=>(f e).bind λx=>if cY x.1 x.2=true then (A4 i e).bind λaS=>(dh aS.length k).bind λj=>(aS[j]?).bind λds=>if ds.length<sizeLine then some (.nx (e.set i (some (.nb,.lst ((aS.set j (ds++[x.2])).map D.lst)))))else none else none
def X9{i:Nat}{t tk:TE}{f fk:Qqj}(hk:JT K tk fk)(h:JT K t f):JS K (rq (wa K "list" uF (ou (sO K) (iw i) tk) (nF t mI))) (zk i fk f):=by
 intro H₀ I O H σ env Ds fl R e q;let⟨y,ey,e⟩:=aw e;let⟨k,ek,e⟩:=aw e;let⟨x,ex,e⟩:=aw e;split at e
 ·rename_i hs;let⟨aS,ed,e⟩:=aw e;let⟨j,ej,e⟩:=aw e;let⟨ds,eds,e⟩:=aw e;split at e
  ·rename_i hl;cases e;let hx:=aaE ed;let⟨v,hv,_,p,qs,aex,rfl,e2,h1,h2,h3,h4,h5,h6⟩:=R.e.at hx;cases Iz (D.lst.inj e2);let⟨a,ha,xs,G4,rr⟩:=JH h6 eds;refine⟨.ref p,hv,?_⟩;refine hk H₀ O H σ env _ y.1 y.2 R.e ey λw H1 s1 hw=>?_;rw[Dq ek]at hw;let hlen:qs.length=aS.length:=cM h6;refine .inl ⟨p,_,k,.ref a,rfl,hw.int,.inl (.inl (s1 _ _ h3)),?_,?_⟩
   ·unfold L2.bp;rw[eU,hlen,ej];show(qs.map V.ref)[j]?=_;rw[cA,ha];rfl
   refine⟨.inl ⟨rfl,xs,.inl (.inl (s1 _ _ G4))⟩,?_⟩;refine h H₀ O H1 σ env _ x.1 x.2 (R.e.keep s1) ex λu H2 s2 hu=>?_;let s:=s1.trans s2;refine⟨a,xs,u,rfl,rfl,s _ _ G4,by rw[rr.len];exact hl,?_⟩;let R2:=R.keep s;let⟨R3,st⟩:=R2.adR (ys:=xs++[u]) (es:=ds++[x.2]) hx hv h1 h2 (s _ _ h3) h4 h5 (lh (λq ds _ ⟨zs,e1,e2⟩=>⟨zs,s _ _ e1,e2.keep (.same s)⟩) h6) ha (s _ _ G4) ((rr.keep (.same s)).app (.cons (hu.cY hs) .nil));exact q O _ σ R3 ((aQ.same s).trans st)
  ·cases e
 ·cases e
end
section
variable {K:Qzk}
end
section
variable {K:Qzk}{H H' H₀:Hp}{O:Qzj}{σ:L2.St}{env:Ev}
end
end J
namespace J
open PySem PySem.Spec PyProof.Rows L2
section
variable {X:Cx}{pins:Qxq}{σ:L2.St}{H:Hp}{s:Shared}{a d it:Addr}
def Nc{o1 o2:HO}(I:L2.Inv X pins σ H s)(e:H a=some o1)(ht:∀xs,o1≠.tup xs)(hb:∀ps,o1≠.mS ps)(hx:∀x,o1≠.own x)(hf:∀o u,X.H₀ a≠some (.aZ o u))(ok:cK X.prog X.w (upd H a o2) s.heap a o2):L2.Inv X pins σ (upd H a o2) s:=by
 let ne:∀b,H b=none→b≠a:=λb h z=>by rw[z,e]at h;cases h
 let nt:∀b xs,H b=some (.tup xs)→b≠a:=λb xs h z=>by rw[z,e]at h;cases h;exact ht _ rfl
 let nx:∀b x,H b=some (.own x)→b≠a:=λb x h z=>by rw[z,e]at h;cases h;exact hx _ rfl
 refine⟨I.ok,I.os,I.bare,⟨I.base.keep,I.base.slot,λb o h n hx=>?_,I.base.there,λb xs h=>?_,λb o u h=>?_,λb ps h=>?_⟩,I.loc,I.cell,?_,λx c h=>?_,λp hp=>?_,λb u h=>?_,I.len⟩
 ·let z:=I.base.free b o h n hx;rw[aI (ne b z)];exact z
 ·let z:=I.base.mF b xs h;rw[aI (nt b xs z)];exact z
 ·let z:=I.base.jW b o u h;rw[aI (λ(q:b=a)=>hf o u (by rw[←q];exact h))];exact z
 ·let⟨m,z⟩:=I.base.mG b ps h;refine⟨m,?_⟩;rw[aI (λq=>by rw[q,e]at z;cases z;exact hb _ rfl)];exact z
 ·rw[aI (ne _ I.free)];exact I.free
 ·rw[aI (ne _ (I.iO x c h))];exact I.iO x c h
 ·let⟨h1,h2,h3⟩:=I.pin p hp;exact⟨h1,by rw[aI (ne _ h2)];exact h2,h3⟩
 ·by_cases z:b=a
  ·subst z;rw[bQ]at h;cases h;exact ok
  ·rw[aI z]at h;exact(I.aH b u h).nQ (λc v _ q=>q) (λc q=>by rw[aI (nx _ _ q)];exact q) λc xs q=>by rw[aI (nt _ _ q)];exact q
def adS(a:Addr)(o:Obj)(u:HO)(Ds:Ends):Ends where
 nx:=λσ H=>H a=some (.aZ o u)∧Ds.nx σ (upd H a u)
 rt:=λv H=>H a=some (.aZ o u)∧Ds.rt v (upd H a u)
 bk:=λσ H=>H a=some (.aZ o u)∧Ds.bk σ (upd H a u)
 ct:=λσ H=>H a=some (.aZ o u)∧Ds.ct σ (upd H a u)
theorem DX:∀{aj:List (Key×V)}{vs:List (Key×Value)}{i:Nat}{kv:Key×V},KV aj vs→aj[i]?=some kv→∃u,vs[i]?=some (kv.1,u)∧RelV kv.2 u
 |_,_,_,_,.nil,e=>by simp at e
 |_,_,0,_,.cons (b:=q) h _,e=>by
  simp only[List.getElem?_cons_zero,Option.some.injEq]at e;subst e;exact⟨q.2,by rw[Qv,h.1],h.2⟩
 |_,_,i+1,kv,.cons _ t,e=>by
  let⟨u,h1,h2⟩:=DX (i:=i) (kv:=kv) t (by simpa using e);exact⟨u,by simpa using h1,h2⟩
def Ya{P:Program}{w:World}{k:Key}{u:Value}(h:(cN P w).is k u=true):RelV (kV k) u:=by
 rcases kU (k:=k) (v:=u) h with⟨i,t,rfl,rfl⟩|⟨x,t,rfl,rfl⟩|⟨rfl,rfl⟩<;>first|exact⟨t,rfl⟩|rfl
end
abbrev pS:Key→D
 |.inl i=>.int i
 |.inr x=>.str x
 |.non=>.non
def adT:HO→Bool
 |.aZ _ _=>false
 |_=>true
def qu(H H':Hp):Prop:=(∀b u,adT u=true→Rd H b u→Rd H' b u)∧∀b xs,H b=some (.tup xs)→H' b=some (.tup xs)
section
variable {K:Qzk}{N:Qzj}{H H' H₀ H₁:Hp}{I:Nat→Qxx}{O:Qzj}{σ:L2.St}{env:Ev}
mutual
theorem Rp.di(w:qu H H'):∀{v:V}{d:D},Rp K N H v d→Rp K N H' v d
 |_,_,.non=>.non
 |_,_,.bl b=>.bl b
 |_,_,.int i=>.int i
 |_,_,.str x=>.str x
 |_,_,.ty n=>.ty n
 |_,_,.tup h r=>.tup (h.elim (λz=>.inl (w.2 _ _ z)) .inr) (aB.di w r)
 |_,_,.lst h n r=>.lst (w.1 _ _ rfl h) n (aB.di w r)
 |_,_,.lstK h r=>.lstK h (aB.di w r)
 |_,_,.dk h n e r=>.dk (w.1 _ _ rfl h) n e (aB.di w r)
 |_,_,.dt h n e r=>.dt (w.1 _ _ rfl h) n e (aB.di w r)
theorem aB.di(w:qu H H'):∀{vs:List V}{ds:Qzz},aB K N H vs ds→aB K N H' vs ds
 |_,_,.nil=>.nil
 |_,_,.cons h r=>.cons (Rp.di w h) (aB.di w r)
end
theorem Cell.di{p:Addr}{d:D}(w:qu H H')(e:H' p=H p)(h:Cell K N H p d):Cell K N H' p d:=by
 cases d<;>simp only[Cell]at h ⊢
 ·let⟨xs,q,r⟩:=h;exact⟨xs,e.trans q,r.di w⟩
 ·let⟨xs,q,z,r⟩:=h;exact⟨xs,e.trans q,z,r.di w⟩
 ·let⟨xs,q,z,r⟩:=h;exact⟨xs,e.trans q,z,r.di w⟩
theorem Val.di{m:M}{d:D}{v:V}(w:qu H H')(un:(m=.un∨m=.ut)→∀p d N,Cell K N H p d→H' p=H p)(on:∀p,O p→H' p=H p)(z:∀b,H₀ b=none→H₁ b=none)(h:Val K H₀ O HE H m d v):Val K H₁ O HE H' m d v:=by
 cases m<;>simp only[Val]at h ⊢
 ·exact h.di w
 ·exact(h.di w).wk λa n _=>⟨n.1,z a n.2⟩
 ·let⟨p,e,h1,h2,h3,c⟩:=h;exact⟨p,e,h1,z _ h2,h3,(c.di w (un (.inl rfl) _ _ _ c)).wk λa n _=>⟨⟨n.1.1,z a n.1.2⟩,n.2⟩⟩
 ·let⟨p,e,h1,h2,c⟩:=h;exact⟨p,e,h1,z _ h2,(c.di w (on _ h1)).wk λa n _=>⟨n.1,z a n.2⟩⟩
 ·let⟨p,e,h1,c⟩:=h;exact⟨p,e,h1,(c.di w (on _ h1)).wk λa n _=>⟨n.1,z a n.2⟩⟩
 ·exact(h.di w).wk λa n _=>z a n
 ·let⟨p,qs,aS,e1,e2,h1,h2,h3,h4,h5,h6⟩:=h;exact⟨p,qs,aS,e1,e2,h1,z _ h2,(on _ h1).trans h3,h4,λq hq=>⟨(h5 q hq).1,z _ (h5 q hq).2.1,(h5 q hq).2.2⟩,lh (λq ds hq ⟨xs,a,r⟩=>⟨xs,(on _ (h5 q hq).1).trans a,(r.di w).wk λa n _=>⟨n.1,z a n.2⟩⟩) h6⟩
 ·let⟨a,xs,ds,e1,e2,h1,h2⟩:=h;refine⟨a,xs,ds,e1,e2,h1.imp (w.2 a xs) id,Paired.mE h2 λd v y=>?_⟩;rcases y with⟨y1,y2⟩|⟨q,y1,y2,c⟩
  ·exact .inl ⟨y1,y2.di w⟩
  ·exact .inr ⟨q,y1,⟨y2.1,z _ y2.2.1,y2.2.2⟩,c.di w (un (.inr rfl) _ _ _ c)⟩
theorem Rel.di(R:Rel K H₀ I O H σ env)(w:qu H H')(on:∀p,O p→H' p=H p)(z:∀b,H₀ b=none↔H₁ b=none)(nn:∀b o,H b=some o→∃o',H' b=some o')(fr:∀b o,(∀i,I i≠some b)→H₁ b=some o→H' b=some o):Rel K H₁ I O H' σ env:=by
 refine⟨⟨nJ (λe x h m d q=>?_) R.e.sl,λa h=>?_,λa o h=>?_,λa o h e=>?_⟩,fr,λa h=>?_,R.ba,R.dj,R.nd.keep λi d p h1 h2=>?_⟩
 ·let⟨n,v,ev,hv⟩:=h m d q;exact⟨n,v,ev,hv.di w (λq=>by rcases q with rfl|rfl<;>cases n) on λb=>(z b).mp⟩
 ·let⟨o,q⟩:=R.e.od a h;exact nn a o q
 ·cases q:H₀ a with
  |none=>rw[(z a).mp q]at h;cases h
  |some o0 =>
   let⟨o1,q1⟩:=R.e.hd a o0 q;exact nn a o1 q1
 ·rw[on a h]at e;exact R.e.on a o h e
 ·exact(R.ow a h).imp id (z a).mp
 ·let⟨qs,aS,_,hO,_⟩:=R.e.nest h1 h2;exact on p hO
def Wk{wi:TI}{g:TG}{tb:TS}{fg:M×D→Ev→Option Ev}{b:Qqq}{Ds:Ends}{fl:Fl}{m:M}{ds:Qzz}(hg:JG K g fg)(hb:JS K tb b)(R:Rel K H₀ I O H σ env)(hm:fL m=true)
  (hi:∀R',(∀J H',aG H H'→lD K H₀ O J H' m ds→R' J H')→wi σ H R') (e:forL fg b m ds env=some fl) (q:pL K H₀ I O H Ds fl):pF wi g tb Ds σ H:=by
 refine hi _ λJ H1 s1 ok=>?_;let q1:=q.pre (aQ.same s1);refine⟨λi n σ2 H2=>∃O2 dQ,Rel K H₀ I O2 H2 σ2 dQ∧aQ O H1 O2 H2∧i≤ds.length∧n=ds.length-i∧forL fg b m (ds.drop i) dQ=some fl,⟨_,O,env,R.keep s1,aQ.refl,jE _,rfl,e⟩,?_⟩;rintro i n σ2 H2 ⟨O2,dQ,R2,st,hle,rfl,ef⟩;by_cases aX:i<ds.length
 ·refine .inr ⟨ok.go O2 H2 i st aX,λσ' H'=>∃O2 dQ,Rel K H₀ I O2 H' σ' dQ∧aQ O H1 O2 H'∧forL fg b m (ds.drop (i+1)) dQ=some fl,?_,?_⟩
  ·rintro σ' H' ⟨O3,E7,R3,bG,GK⟩;exact⟨ds.length-(i+1),by omega,O3,E7,R3,bG,aX,rfl,GK⟩
  ·intro x H3 y;let⟨s3,d,hd,hv⟩:=ok.ku O2 H2 i x H3 st aX y;let wB:ds.drop i=d::ds.drop (i+1):=by
    rw[F3 aX];rw[dC aX]at hd;cases hd;rfl
   rw[wB]at ef;simp only[forL]at ef;let⟨e1,g1,ef⟩:=aw ef;let⟨r,br,ef⟩:=aw ef;refine hg H₀ I O2 H3 σ2 dQ (m,d) x e1 _ (R2.keep s3) hm hv g1 λσ4 R4=>?_;let m9:=st.trans (aQ.same (O:=O2) s3);refine hb H₀ I O2 H3 σ4 e1 _ r R4 br ?_;cases r with
   |nx e2=>exactλO5 H5 σ5 R5 fP=>⟨O5,e2,R5,m9.trans fP,ef⟩
   |ct e2=>exactλO5 H5 σ5 R5 fP=>⟨O5,e2,R5,m9.trans fP,ef⟩
   |bk e2=>cases ef;exact(q1.pre m9)
   |rt e2 m' d'=>cases ef;exact(q1.pre m9)
 ·let hi:i=ds.length:=by omega
  subst hi;rw[F4]at ef;cases ef;exact .inl ⟨ok.stop O2 H2 st,q1 O2 H2 σ2 R2 st⟩
theorem Ent.at{aj:List (Key×V)}{ks:List (Key×D)}{i:Nat}{kv:Key×V}(h:Ent K N H aj ks)(e:aj[i]?=some kv):∃d,ks[i]?=some (kv.1,d)∧Rp K N H kv.2 d:=by
 induction aj generalizing ks i with
 |nil=>simp at e
 |cons p aj ih =>
  cases ks with
  |nil=>exact absurd h.len (by simp)
  |cons q ks =>
   let⟨e1,r,t⟩:=h.cons_inv;cases i with
   |zero=>simp only[List.getElem?_cons_zero,Option.some.injEq]at e;subst e;exact⟨q.2,by rw[Qv,e1],r⟩
   |succ i=>let⟨d,h1,h2⟩:=ih t (by simpa using e);exact⟨d,by simpa using h1,h2⟩
end
end J
namespace J
open PySem
end J
namespace J
open PySem PySem.Spec PyProof.Rows L2
theorem yc:∀(ds:Qzz),dw ds=ds.map toPy
 |[]=>by simp[dw]
 |d::ds=>by simp[dw,yc ds]
section
variable {X:Cx}{pins:Qxq}{σ:L2.St}{H:Hp}{s:Shared}{N N':Qzj}{A:Around}{a b:Addr}{aj lvs:List (Key×V)}{ks ls:List (Key×D)}
end
section
variable {X:Cx}{K:Qzk}
end
theorem ints_of:∀{ns:Qxk}{us:Qxz},Vals (ns.map V.int) us→IntsAre us ns
 |[],_,.nil=>.nil
 |n::ns,_,.cons ⟨t,e⟩ r=>by subst e;exact .cons n t (ints_of r)
abbrev lB:Qzz→Option (Qxk)
 |[]=>some []
 |.int x::r=>(lB r).bind λxs=>some (x::xs)
 |_=>none
section
variable {K:Qzk}{H:Hp}
theorem yj{N:Qzj}:∀{ds:Qzz}{vs:List V}{ys:Qxk},aB K N H vs ds→lB ds=some ys→vs=ys.map V.int
 |_,_,_,.nil,e=>by cases e;rfl
 |d::ds,v::vs,ys,.cons h r,e=>by
  cases d<;>simp only[lB]at e<;>try (cases e;done)
  let⟨xs,ex,e⟩:=aw e;cases e;rw[yj r ex,h.int_inv];rfl
end
structure zN (K:Qzk)(x:Str)(st:Stmt)(f:Addr)(fd:FuncData):Prop where
 ex:∃(oc:Value) (od:Qxx) (dV kV doc pm:Value) (an:Qxx) (bX ct:Value) (kz:Array (Option Value)),
  fd=PySem.W.fnOf x x (gu st) (fC st) (cy st) dV kV doc pm an bX ct∧K.lookup f=some ⟨oc,od,.func fd,kz⟩∧PySem.W.codeIn K bX x=true
 kp:PySem.W.keepIn K (.ref f)=true
def zN.ok{P:Program}{w:World}{K:Qzk}{mg:Str→Option Value}{base:Heap}{x:Str}{st:Stmt}{f:Addr}{fd:FuncData}{N ps:Qjz}{k:Nat}{sp:Sp}(F:zN K x st f fd)(S:uD N ps (cy st))(len:∀vs H Q E,sp vs H Q E→vs.length=ps.length)
  (u6:∀(bX:Value) (A:Around) (outer:List Env) (s:Shared) (H:Hp) (vs:List V) (Q:VK) (E:XK),fh k (A.deeper (envOfC x (cy st) s.heap.objs.size f bX))→sp vs H Q E →
   ∃t,hU (nS m7 P w K mg base N x (cy st) f bX A outer s H E).qg (fC st) t∧t { nx:=λ_ H'=>Q .non H',rt:=Q } (L2.start N vs) H):mK P w K mg base m7 (k+1) f fd ps sp:=by
 let⟨oc,od,dV,kV,doc,pm,an,bX,ct,kz,rfl,lk,iZ⟩:=F.ex;refine Ob lk iZ S len λA outer s H vs Q E hr lM=>?_;let⟨t,h,q⟩:=u6 bX A outer s H vs Q E hr lM;exact⟨t,h.qg,q⟩
structure DfD (K:Qzk)(mg:Str→Option Value)(x:Str)(st:Stmt)(ps:Qjz)(dv:Value)(f:Addr)(fd:FuncData):Prop where
 mg:mg x=some (.ref f)
 fn:zN K x st f fd
 bd:Binds K fd ps []
 A5:Binds K fd ps [dv]
end J
namespace J
open PySem PySem.Spec PyProof.Rows L2
open Builtin Builtin.Str
section
variable {K:Qzk}{H:Hp}
end
end J
namespace J
open PySem PySem.Spec PyProof.Rows L2
section
variable {prog:Program}{w:World}{A:Around}{E:Qzx}{s:Shared}{d:Addr}
def find_none{o:Obj}{es:Array DictEntry}{ep:Nat}{h:Int}{Q:Option Nat→Shared→Prop}(hu:A.units<cLine)(ho:s.heap.get? d=some o)(hd:o.data=.dict es ep)
  (hk:∀e∈es,∃ks b,e.key=.ref b∧(tupleKind (cN prog w)).is s.heap ks b) (hq:Q none s):wpAny (model prog w) A (dictFind d .none h) Q E s:=by
 unfold dictFind
 try with_reducible refine kg ?_
 refine aA (Af ho hd ?_);dsimp only;let fI:∀v∈(placesWithHash es.size (λi=>es[i]?.map (·.hash)) h).filterMap (λi=>es[i]?.map (·.key)),∃ks b,v=.ref b∧(tupleKind (cN prog w)).is s.heap ks b:=by
  intro v hv;let⟨i,_,hi⟩:=FN.mp hv;cases lP:es[i]? with
  |none=>rw[lP]at hi;cases hi
  |some e =>
   rw[lP]at hi;obtain rfl:e.key=v:=by simpa using hi
   exact hk e (Array.mem_of_getElem? lP)
 cases hs:(placesWithHash es.size (λi=>es[i]?.map (·.hash)) h).filterMap (λi=>es[i]?.map (·.key)) with
 |nil =>
  rw[if_pos (by rfl)];let hp:placesWithHash es.size (λi=>es[i]?.map (·.hash)) h=[]:=by
   cases hp:placesWithHash es.size (λi=>es[i]?.map (·.hash)) h with
   |nil=>rfl
   |cons i r =>
    let hi:i∈placesWithHash es.size (λi=>es[i]?.map (·.hash)) h:=by rw[hp];exact cg
    let aX:i<es.size:=by
     unfold placesWithHash at hi;exact iC.mp (mP.mp hi).1
    rw[hp,z4]at hs;simp[aX]at hs
  rw[hp];unfold dictWalkPlain;refine aA ?_;exact aO (aO hq)
 |cons v r =>
  let⟨ks,b,rfl,hb⟩:=fI v (by rw[hs];exact cg);rw[if_neg (by simp[carriedByValue])];rw[if_neg (by simp)];refine aA ?_;let adU:∀x∈(Value.ref b::r),∃ks b,x=.ref b∧(tupleKind (cN prog w)).is s.heap ks b:=by rw[←hs];exact fI
  let mt:∀{Q':Bool→Shared→Prop},Q' false s→wpAny (model prog w) A (tableMayTell .none (Value.ref b::r)) Q' E s:=λ{Q'} hq'=>by
   unfold tableMayTell;rw[if_neg (by simp)];refine aA (show wpAny _ _ (pure true) _ _ s from aO ?_);simp only[Bool.not_true,Bool.false_eq_true,if_false];refine aA ?_;refine wpAny_forIn_list _ (λrest r s'=>s'=s∧r=(none,())∧∀v∈rest,∃ks b,v=.ref b∧(tupleKind (cN prog w)).is s.heap ks b) _ ?_ ?_ _ _ ⟨rfl,rfl,adU⟩
   ·rintro x rest r s' ⟨rfl,rfl,hr⟩;let⟨k',b,rfl,hb⟩:=hr x cg;refine aA ((tupleKind (cN prog w)).quiet hb ?_);simp only[Bool.not_true,Bool.false_eq_true,if_false];exact aO ⟨rfl,rfl,λv hv=>hr v (c9 _ hv)⟩
   ·rintro r s' ⟨rfl,rfl,_⟩;exact aO hq'
  refine mt ?_;rw[if_neg (by simp)];refine aA ?_;refine wpAny_forIn_list _ (λrest r s'=>s'=s∧r=(none,none)) _ ?_ ?_ _ _ ⟨rfl,rfl⟩
  ·rintro i rest r s' ⟨rfl,rfl⟩;cases lP:es[i]? with
   |none=>exact aO ⟨rfl,rfl⟩
   |some e =>
    let⟨ks,b,ek,hb⟩:=hk e (Array.mem_of_getElem? lP);dsimp only;by_cases hh:(e.hash==h)=true
    ·rw[if_pos hh,ek];let⟨ob,its,n,g1,g2,g3,_⟩:=hb;refine aA (vL ho hd (aA (SeqAt.EqAt.tuple_none (items:=its) ⟨ob,g1,g2,n,g3⟩ hu _ _ _ _ (aA (vL ho hd ?_)))));show wpAny _ _ (if (ep != ep)=true then _ else _) _ E _;rw[if_neg (by simp)];simp only[Bool.false_eq_true,if_false];refine aA (wpAny_rule ?_);simp only[Bool.false_and,Bool.false_eq_true,if_false];exact aO ⟨rfl,rfl⟩
    ·rw[if_neg hh];exact aO ⟨rfl,rfl⟩
  ·rintro r s' ⟨rfl,rfl⟩;exact aO hq
def get_none{xs:List (List Key×Addr×Value)}{r:Value}{Q:Qzx}(hu:A.units+1<cLine)(hs:(d==sysModules)=false)(dd:s.heap.DictOfH (tupleKind (cN prog w)) d xs)(hq:Q r { s with toks:=s.toks+1 }):wpAny (model prog w) A (call (.builtin "dict.get") [.ref d,.none,r]) Q E s:=by
 refine call_meetsIn Ae dd.typeIs F1 (F2 _ _ _) (S:=λA R s=>A.in1.units<cLine∧s.heap.DictOfH (tupleKind (cN prog w)) d xs∧R (.ok (.ret r)) { s with toks:=s.toks+1 }) (.of_wp λA R s ⟨hu,hm,h⟩=>?_) ⟨hu,dd,hq⟩;let⟨o,es,ep,ho,_,hd,he,his,hn⟩:=hm;show wpAny _ _ (dictGet d .none >>= _) _ _ s;refine aA ?_;unfold dictGet
 try with_reducible refine kg ?_
 refine aA (Jr (aA (find_none (s:={ s with toks:=s.toks+1 }) hu ho hd (λe m=>?_) ?_)))
 ·have:e∈xs.map (entryOfKey (tupleKind (cN prog w))):=he▸Array.mem_toList_iff.mpr m;let⟨x,hx,rfl⟩:=bP.mp this;exact⟨x.1,x.2.1,rfl,his x hx⟩
 ·refine aO ?_;show wpAny _ _ (Builtin.Dict.missed d .none >>= _) _ _ _;exact aA (wpAny_missed_other hs (aO ⟨r,rfl,h⟩))
end
section
variable {prog:Program}{w:World}{A:Around}{E:Qzx}{s:Shared}
inductive pB {κ:Type}[DecidableEq κ](A:Around)(s:Shared)(kb:List (κ×Addr×Value)):List (κ×Addr×Value)→Bool→Prop
 |nil:pB A s kb [] true
 |miss {k:κ}{p:Addr×Value}{r:List (κ×Addr×Value)}:atKey kb k=none→pB A s kb ((k,p)::r) false
 |hit {k:κ}{p q:Addr×Value}{r:List (κ×Addr×Value)}{e b:Bool}:atKey kb k=some q→SeqAt.EqAt A s p.2 q.2 e→pB A s kb r b→pB A s kb ((k,p)::r) (e&&b)
def pB.inv{κ:Type}[DecidableEq κ]{kb:List (κ×Addr×Value)}{k:κ}{p:Addr×Value}{r:List (κ×Addr×Value)}{b:Bool}(h:pB A s kb ((k,p)::r) b) :
  (atKey kb k=none∧b=false)∨∃q e b',atKey kb k=some q∧SeqAt.EqAt A s p.2 q.2 e∧pB A s kb r b'∧b=(e&&b'):=by
 cases h with
 |miss hn=>exact .inl ⟨hn,rfl⟩
 |hit hy he hr=>exact .inr ⟨_,_,_,hy,he,hr,rfl⟩
end
def Raw(h:Heap)(d:Addr)(es:Array DictEntry)(ep:Nat):Prop:=∃o,h.get? d=some o∧o.ExactDict∧o.data=.dict es ep
def Raw.ty{s:Shared}{d:Addr}{es:Array DictEntry}{ep:Nat}(h:Raw s.heap d es ep):s.TypeIs (.ref d) "dict" := let ⟨o,a,b,_⟩:=h;⟨o,a,b.1⟩
section
variable {prog:Program}{w:World}{A:Around}{E:Qzx}{s:Shared}{d it:Addr}{es:Array DictEntry}{ep i n:Nat}
end
abbrev vB:HO→Bool
 |.dK _=>true
 |.dT _=>true
 |_=>false
abbrev pT:HO→List V
 |.dK aj=>aj.map (·.2)
 |.dT aj=>aj.map (·.2)
 |_=>[]
def Nf{u:HO}(h:vB u=true):(∀o v,u≠.aZ o v)∧(∀xs,u≠.tup xs)∧(∀ps,u≠.mS ps)∧∀x,u≠.own x:=by
 cases u<;>first | (cases h;done)|exact⟨(λ_ _ z=>nomatch z),(λ_ z=>nomatch z),(λ_ z=>nomatch z),(λ_ z=>nomatch z)⟩
section
variable {X:Cx}{pins:Qxq}{σ:L2.St}{H:Hp}{s:Shared}{a it:Addr}
set_option tactic.hygienic true in
def aaF{P:Program}{w:World}{h:Heap}{u:HO}(hu:vB u=true)(ok:cK P w H h a u):∃o es ep,h.get? a=some o∧o.ExactDict∧o.data=.dict es ep∧es.size=(pT u).length∧(∀(i:Nat) x,(pT u)[i]?=some x→∃e,es[i]?=some e∧RelV x e.val)∧(a==sysModules)=false:=by
 cases u<;>try (cases hu;done)
 ·rename_i aj;let⟨z,lo,vs,rv,o,es,ep,ho,ex,hd,hk,hp,hn⟩:=ok;refine⟨o,es,ep,ho,ex,hd,?_,λi x e=>?_,lo⟩
  ·let e1:=hp.length;let e2:=rv.length;simp only[Array.length_toList]at e1;simp[pT,e1,e2]
  ·simp only[pT,List.getElem?_map,Option.map_eq_some_iff]at e;let⟨kv,fB,rfl⟩:=e;let⟨v,h1,h2⟩:=DX rv fB;let hi:i<es.size:=by
    have:=(a9.mp h1).1;let e1:=hp.length;simp only[Array.length_toList]at e1;omega
   exact⟨es[i],by simp[hi],by rw[(hp.get? (e:=es[i]) (by simp[hi]) h1).2];exact h2⟩
 ·rename_i aj;let⟨z,lo,xs,r,o,es,ep,ho,ex,hd,he,hn⟩:=ok;refine⟨o,es,ep,ho,ex,hd,?_,λi x e=>?_,lo⟩
  ·rw[←n6,he,eU,←cM r];simp[pT]
  ·simp only[pT,List.getElem?_map,Option.map_eq_some_iff]at e;let⟨kv,fB,rfl⟩:=e;let go:∀{l:List (List Key×V)}{m:List (List Key×Addr×Value)}{i:Nat}{kv:List Key×V},Paired (λ(p:List Key×V) (q:List Key×Addr×Value)=>p.1=q.1∧H q.2.1=some (.tup (p.1.map kV))∧RelV p.2 q.2.2) l m→l[i]?=some kv→∃y,m[i]?=some y∧RelV kv.2 y.2.2:=by
    intro l m i kv q
    induction q generalizing i with
    |nil=>intro e;simp at e
    |cons h t ih =>
     intro e;cases i with
     |zero=>simp at e;subst e;exact⟨_,rfl,h.2.2⟩
     |succ i=>exact ih (by simpa using e)
   let⟨y,h1,h2⟩:=go r fB;exact⟨entryOfKey (tupleKind (cN P w)) y,by rw[←n9,he,cA,h1];rfl,h2⟩
def Ov{P:Program}{w:World}{h:Heap}{H':Hp}{u:HO}(hu:vB u=true)(ok:cK P w H h a u)(nt:∀b xs,H b=some (.tup xs)→H' b=some (.tup xs)):cK P w H' h a u:=by
 cases u<;>try (cases hu;done)
 ·exact ok
 ·let⟨z,lo,xs,r,m⟩:=ok;exact⟨z,lo,xs,Paired.mE r λp q z=>⟨z.1,nt _ _ z.2.1,z.2.2⟩,m⟩
def En(i:Nat)(t:TS):TS:=λDs σ H=>∃a u,σ[i]?=some (some (.ref a))∧vB u=true ∧
 ((H a=some u∧∀o,t (adS a o u Ds) σ (upd H a (.aZ o u)))∨((∃o,H a=some (.aZ o u))∧t Ds σ H))
def Yb{st:Stmt}{t:TS}{i:Nat}(h:gH X st t):gH X st (En i t):=by
 refine⟨λpins s σ H Ds I ht=>?_⟩;obtain⟨a,u,hs,hu,⟨e,ht⟩|⟨_,ht⟩⟩:=ht
 ·let ok:=I.aH a _ e;let⟨n1,n2,n3,n4⟩:=Nf hu;let⟨o,_,_,ho,_⟩:=aaF hu ok;let hf:∀o v,X.H₀ a≠some (.aZ o v):=λo v z=>by rw[I.base.jW a o v z]at e;cases e;exact n1 _ _ rfl
  let nt:∀{H':Hp}{z z':HO},H' a=some z→(∀xs,z≠.tup xs)→∀b xs,H' b=some (.tup xs)→upd H' a z' b=some (.tup xs):=λe' nz b xs q=>by
   rw[aI (rj q e' (λw=>nz xs w.symm))];exact q
  let I1:L2.Inv X pins σ (upd H a (.aZ o u)) s:=Nc I e n2 n3 n4 hf ⟨ho,Ov hu ok (nt e n2)⟩;let th:∀{σ':L2.St}{H':Hp}{s':Shared},L2.Inv X pins σ' H' s'→H' a=some (.aZ o u)→L2.Inv X pins σ' (upd H' a u) s':=λI' e' =>
   Nc I' e' (λ_ z=>nomatch z) (λ_ z=>nomatch z) (λ_ z=>nomatch z) hf (Ov hu (I'.aH a _ e').2 (nt e' (λ_ z=>nomatch z)))
  refine aK (h.go pins s σ _ _ I1 (ht o)) λf s' q=>?_;cases f with
  |next=>let⟨σ',H',I',e',q⟩:=q;exact⟨σ',_,th I' e',q⟩
  |brk=>let⟨σ',H',I',e',q⟩:=q;exact⟨σ',_,th I' e',q⟩
  |cont=>let⟨σ',H',I',e',q⟩:=q;exact⟨σ',_,th I' e',q⟩
  |ret v=>let⟨v',σ',H',I',sU,e',q⟩:=q;exact⟨v',σ',_,th I' e',sU,q⟩
 ·exact h.go pins s σ H Ds I ht
end
end J
namespace J
open PySem L2
section
variable {K:Qzk}{N:Qzj}{H H' H₀ H₁:Hp}{I:Nat→Qxx}{O:Qzj}{σ:L2.St}{env:Ev}
abbrev vsD:D→Option (Qzz)
 |.dk ks=>some (ks.map (·.2))
 |.dt ks=>some (ks.map (·.2))
 |_=>none
abbrev DR(K:Qzk)(N:Qzj)(H:Hp):HO→D→Prop
 |.dK aj,.dk ks=>Ent K N H aj ks
 |.dT aj,.dt ks=>Ent K N H aj ks
 |_,_=>False
def DR.dc{u:HO}{d:D}(h:DR K N H u d):vB u=true:=by cases u<;>cases d<;>first|rfl|exact h.elim
def DR.vs{u:HO}{d:D}{ds:Qzz}(h:DR K N H u d)(e:vsD d=some ds):aB K N H (pT u) ds:=by
 cases u<;>cases d<;>first|exact h.elim|skip
 ·cases e;exact h.2
 ·cases e;exact h.2
def DR.mono{N':Qzj}{u:HO}{d:D}(h:DR K N H u d)(w:∀{vs:List V}{ds:Qzz},aB K N H vs ds→aB K N' H' vs ds):DR K N' H' u d:=by
 cases u<;>cases d<;>first|exact h.elim|exact⟨h.1,w h.2⟩
def zl(src:D→Option (Qzz))(i:Nat)(g:M×D→Ev→Option Ev)(b:Qqq):Qqq:=λe=>match e[i]? with
 |some (some (m,d))=>if fL m=true then (src d).bind λds=>forL g b m ds e else none
 |_=>none
set_option tactic.hygienic true in
def Yc{i:Nat}{wi:TI}{src:D→Option (Qzz)}{g:TG}{tb:TS}{fg:M×D→Ev→Option Ev}{b:Qqq}(hd:∀d ds,src d=some ds→(∃ks,d=.dk ks)∨∃ks,d=.dt ks)
  (hw:∀(G:Hp) (O:Qzj) (H1:Hp) (σ:L2.St) (m:M) (a:Addr) (o:Obj) (u:HO) (d:D) (ds:Qzz),fL m=true→σ[i]?=some (some (.ref a))→H1 a=some (.aZ o u)→¬O a→DR K (NM G O m) H1 u d→src d=some ds→(∀a o,O a→H1 a=some o→¬ia o)→∀R',(∀J H',aG H1 H'→lD K G O J H' m ds→R' J H')→wi σ H1 R')
  (hg:JG K g fg) (hb:JS K tb b):JS K (En i (pF wi g tb)) (zl src i fg b):=by
 intro H₀ I O H σ env Ds fl R e q;unfold zl at e;split at e
 ·rename_i m d he;split at e
  ·rename_i hm;let⟨ds,ed,e⟩:=aw e;let⟨v,hv,_,hz⟩:=R.e.at he;let hz':∃a u,v=.ref a∧Rd H a u∧¬O a∧DR K (NM H₀ O m) H u d:=by
    rcases hd d ds ed with⟨_,rfl⟩|⟨_,rfl⟩
    ·cases m<;>try (cases hm;done)
     ·cases hz with|dk r n e q=>exact⟨_,_,rfl,r,n,e,q⟩
     ·cases hz with|dk r n e q=>exact⟨_,_,rfl,r,n.1,e,q⟩
    ·cases m<;>try (cases hm;done)
     ·cases hz with|dt r n e q=>exact⟨_,_,rfl,r,n,e,q⟩
     ·cases hz with|dt r n e q=>exact⟨_,_,rfl,r,n.1,e,q⟩
   let⟨a,u,rfl,rd,na,dr⟩:=hz';let hu:=dr.dc;let⟨n1,n2,_,_⟩:=Nf hu;let run:∀{G H1:Hp}{o:Obj}{Es:Ends},Rel K G I O H1 σ env→H1 a=some (.aZ o u)→DR K (NM G O m) H1 u d→pL K G I O H1 Es fl→pF wi g tb Es σ H1:=λR1 e1 en1 q1 =>
    Wk hg hb R1 hm (hw _ _ _ σ m a _ u d ds hm hv e1 na en1 ed R1.e.on) e q1
   refine⟨a,u,hv,hu,?_⟩;rcases rd with e1|⟨o,e1⟩
   ·refine .inl ⟨e1,λo=>?_⟩;let w:qu H (upd H a (.aZ o u)):=⟨λb v _ h=>by
     by_cases z:b=a
     ·subst z;rcases h with h|⟨o',h⟩
      ·rw[e1]at h;cases h;exact .inr ⟨o,bQ⟩
      ·rw[e1]at h;cases h;exact absurd rfl (n1 _ _)
     ·unfold Rd at h ⊢;rw[aI z];exact h,λb xs h=>by rw[aI (rj h e1 (λz=>n2 _ z.symm))];exact h⟩
    let nO:∀p,O p→p≠a:=λp h z=>na (z▸h);let zz:∀b,H₀ b=none↔(λb=>if b=a then (H₀ a).map (λ_=>HO.aZ o u)else H₀ b) b=none:=λb=>by
     by_cases z:b=a
     ·subst z;simp
     ·simp[z]
    let R1:Rel K (λb=>if b=a then (H₀ a).map (λ_=>HO.aZ o u)else H₀ b) I O (upd H a (.aZ o u)) σ env:=by
     refine R.di w (λp h=>aI (nO p h)) zz (λb v h=>?_) λb v n h=>?_
     ·by_cases z:b=a
      ·subst z;exact⟨_,bQ⟩
      ·exact⟨v,by rw[aI z];exact h⟩
     ·by_cases z:b=a
      ·subst z;simp only[if_true]at h;cases q0:H₀ b with
       |none=>rw[q0]at h;cases h
       |some u0=>rw[q0]at h;cases h;exact bQ
      ·simp only[z,if_false]at h;rw[aI z];exact R.fr b v n h
    let back:∀{O':Qzj}{H':Hp},aQ O (upd H a (.aZ o u)) O' H'→H' a=some (.aZ o u)∧aQ O H O' (upd H' a u) ∧
      (∀{σ':L2.St}{env':Ev},Rel K (λb=>if b=a then (H₀ a).map (λ_=>HO.aZ o u)else H₀ b) I O' H' σ' env'→Rel K H₀ I O' (upd H' a u) σ' env') ∧
      ∀{m:M}{d:D}{v:V},Val K (λb=>if b=a then (H₀ a).map (λ_=>HO.aZ o u)else H₀ b) O' HE H' m d v→Val K H₀ O' HE (upd H' a u) m d v:=λ{O' H'} st=>by
     let⟨ha,Rl⟩:=st a _ bQ na;let w':qu H' (upd H' a u):=⟨λb v nf h=>by
      by_cases z:b=a
      ·subst z;rcases h with h|⟨o',h⟩
       ·rw[ha]at h;cases h;cases nf
       ·rw[ha]at h;cases h;exact .inl bQ
      ·unfold Rd at h ⊢;rw[aI z];exact h,λb xs h=>by rw[aI (rj h ha (λz=>nomatch z))];exact h⟩
     let Rm:∀p,O' p→upd H' a u p=H' p:=λp h=>aI λz=>Rl (z▸h);refine⟨ha,λb v h n=>?_,λR'=>?_,λiK=>iK.di w' (λ_ p d N c=>?_) Rm λb=>(zz b).mpr⟩
     ·by_cases z:b=a
      ·subst z;rw[e1]at h;cases h;exact⟨bQ,Rl⟩
      ·let⟨h1,h2⟩:=st b v (by rw[aI z];exact h) n;exact⟨by rw[aI z];exact h1,h2⟩
     ·refine R'.di w' Rm (λb=>(zz b).symm) (λb v h=>?_) λb v n h=>?_
      ·by_cases z:b=a
       ·subst z;exact⟨_,bQ⟩
       ·exact⟨v,by rw[aI z];exact h⟩
      ·by_cases z:b=a
       ·subst z;let h2:=R.fr b v n h;rw[e1]at h2;cases h2;exact bQ
       ·rw[aI z];exact R'.fr b v n (by simp only[z,if_false];exact h)
     ·refine aI λz=>?_;subst z;cases d<;>simp only[Cell]at c
      all_goals (let⟨xs,q,_⟩:=c;rw[ha]at q;cases q)
    refine run R1 bQ (dr.mono λr=>(r.di w).wk λb n _=>?_) ?_
    ·cases m<;>try (cases hm;done)
     ·exact n
     ·exact⟨n.1,(zz b).mp n.2⟩
    ·cases fl with
     |nx e'=>exactλO' H' σ' R' st=>⟨(back st).1,q _ _ _ ((back st).2.2.1 R') (back st).2.1⟩
     |bk e'=>exactλO' H' σ' R' st=>⟨(back st).1,q _ _ _ ((back st).2.2.1 R') (back st).2.1⟩
     |ct e'=>exactλO' H' σ' R' st=>⟨(back st).1,q _ _ _ ((back st).2.2.1 R') (back st).2.1⟩
     |rt e' m' d'=>exactλO' H' σ' v R' st iK=>⟨(back st).1,q _ _ _ v ((back st).2.2.1 R') (back st).2.1 ((back st).2.2.2 iK)⟩
   ·exact .inr ⟨⟨o,e1⟩,run R e1 dr q⟩
  ·cases e
 ·cases e
end
end J
namespace J
open PySem PySem.Spec PyProof.Rows L2
def keysOf:Qzz→Option (List Key)
 |[]=>some []
 |d::ds=>(keyOf d).bind λk=>(keysOf ds).map λks=>k::ks
def mO:D→Option (List Key)
 |.tup ds=>if ds.length<4 then keysOf ds else none
 |_=>none
abbrev lE:D→Option (List (List Key×D))
 |.dt ks=>some ks
 |_=>none
def yx{d:D}{ks:List (List Key×D)}(h:lE d=some ks):d=.dt ks:=by cases d<;>simp only[lE]at h<;>cases h;rfl
section
variable {K:Qzk}{N:Qzj}{H H' H₀:Hp}{I:Nat→Qxx}{O:Qzj}{σ:L2.St}{env:Ev}
theorem Jd:∀{ds:Qzz}{ks:List Key}{vs:List V},keysOf ds=some ks→aB K N H vs ds→vs=ks.map kV
 |[],_,_,e,.nil=>by cases e;rfl
 |d::ds,_,_,e,.cons h r=>by
  let⟨k,e1,e⟩:=aw e;cases e2:keysOf ds with
  |none=>rw[e2]at e;cases e
  |some l=>rw[e2]at e;cases e;rw[Jd e2 r,oR e1 h];rfl
set_option tactic.hygienic true in
def uw{d:D}{ks:List Key}{v:V}(e:mO d=some ks)(h:Rp K N H v d):∃b,v=.ref b∧H b=some (.tup (ks.map kV)):=by
 cases d<;>try (cases e;done)
 rename_i ds;simp only[mO]at e;split at e
 ·rename_i hl;cases h with
  |tup q r =>
   have:=r.len;let z:=q.own (by omega);rw[Jd e r]at z;exact⟨_,rfl,z⟩
 ·cases e
theorem Val.dt{m:M}{ks:List (List Key×D)}{v:V}{Hb:Hp}(h:Val K H₀ O Hb H m (.dt ks) v):∃a aj,v=.ref a∧Rd H a (.dT aj)∧Ent K (NM H₀ O (bf m)) H aj ks:=by
 cases m<;>simp only[Val,Cell]at h
 ·cases h with|dt r n e q=>exact⟨_,_,rfl,r,e,q⟩
 ·cases h with|dt r n e q=>exact⟨_,_,rfl,r,e,q⟩
 ·let⟨p,rfl,_,_,_,xs,q,e,r⟩:=h;exact⟨_,_,rfl,.inl q,e,r.wk λa h _=>h.1⟩
 ·let⟨p,rfl,_,_,xs,q,e,r⟩:=h;exact⟨_,_,rfl,.inl q,e,r⟩
 ·let⟨p,rfl,_,xs,q,e,r⟩:=h;exact⟨_,_,rfl,.inl q,e,r⟩
 ·cases h with|dt r n e q=>exact⟨_,_,rfl,r,e,q⟩
 ·let⟨p,qs,aS,rfl,e2,_⟩:=h;cases e2
 ·let⟨_,_,_,_,e2,_⟩:=h;cases e2
abbrev vf:Qqj:=λ_=>some (.un,.dt [])
def Yd:JT K MJ vf:=by
 intro H₀ O H σ env Q m d R h q;cases h;intro p hp;exact q _ _ (dn hp) ⟨p,rfl,hp,k5 R.hd hp,iN R.od hp,[],bQ,rfl,.nil⟩
def jn(fd fk:Qqj):Qqj:=λe=>(fd e).bind λx=>(fk e).bind λy=>(lE x.2).bind λks=>(mO y.2).bind λk=>(dz ks k).bind λd=>some (bf x.1,d)
def Ye{td ty:TE}{fd fk:Qqj}(hd:JT K td fd)(hk:JT K ty fk):JT K (Ee td ty) (jn fd fk):=by
 intro H₀ O H σ env Q m d R h q;let⟨x,ex,h⟩:=aw h;let⟨y,ey,h⟩:=aw h;let⟨ks,i9,h⟩:=aw h;let⟨k,ek,h⟩:=aw h;let⟨d',ed,h⟩:=aw h;cases h;refine hd H₀ O H σ env _ x.1 x.2 R ex λv H1 s1 h1=>?_;refine hk H₀ O H1 σ env _ y.1 y.2 (R.keep s1) ey λw H2 s2 h2=>?_;rw[yx i9]at h1;let⟨a,aj,rfl,rd,en⟩:=(h1.keep s2).dt;let⟨b,rfl,hb⟩:=uw ek h2.weak;rcases en.val k with⟨z,_⟩|⟨d2,v2,z1,z2,r⟩
 ·rw[z]at ed;cases ed
 ·rw[z1]at ed;cases ed;exact⟨a,v2,rfl,.inr ⟨aj,k,b,rd,rfl,hb,z2.symm⟩,q v2 H2 (s1.trans s2) (Val.el r)⟩
def adV(H:Hp)(a:Addr)(y:V)(r:Option V):Prop:=iW H a y r∨∃aj,Rd H a (.dT aj)∧y=.non∧r=none
abbrev Ng(td ty tx:TE):TE:=λσ H Q=>td σ H λx H1=>∃a,x=.ref a∧QN H1 a∧ty σ H1 λy H2=>tx σ H2 λz H3=>∃o,adV H3 a y o∧Q (o.getD z) H3
def Wm {X:Cx}{td ty tx:TE}{o e f:Expr}{apos dF:Pos} (hu:X.A.units+1<cLine) (ho:PE X o td) (he:PE X e ty) (hf:PE X f tx) (m:M2 X o "get" apos e f dF):PE X (.Call (.Attribute o "get" apos) [e,f] [] dF) (Ng td ty tx):=by
 intro pins s σ H Q I h;refine wpAny_Call_method m.base m.few m.line PySem.F.plainAttrs_dict Ae PySem.F.type_dict_get (aK (ho pins s σ H _ I h) λu s1 ⟨x,H1,I1,rx,a,ex,d,q1⟩=>?_);subst ex;obtain rfl:u=Value.ref a:=rx;let⟨t1,t2,_⟩:=ZI I1 d;refine⟨t1,t2,?_⟩;rw[m.trees];refine FZ rfl (Calls.evalArgs_plain (vH (aK (he pins s1 σ H1 _ I1 q1) λiv s2 ⟨y,H2,I2,ry,q2⟩ =>
  vH (aK (hf pins s2 σ H2 _ I2 q2) λfv s3 ⟨z,H3,I3,rz,ov,g,q3⟩=>Calls.spliced_nil ?_))))
 rcases g with g|⟨aj,rd,ey,er⟩
 ·exact ZJ hu I3 g ry rz λw' s4 I4 kE=>⟨_,H3,I4,kE,q3⟩
 ·subst ey er;cases (show iv=Value.none from ry);let⟨_,lo,xs,_,dd⟩:=nH I3.aH rd;exact get_none hu lo dd ⟨_,H3,I3.tok _,rz,q3⟩
def uU(fd fk fx:Qqj):Qqj:=λe=>(fd e).bind λx=>(fk e).bind λy=>(fx e).bind λz=>(lE x.2).bind λks=>match y.2 with
 |.non=>if z.2.cB=true then some (.fr,z.2)else none
 |d=>(mO d).bind λk=>match dz ks k with
  |some d=>some (bf x.1,d)
  |none=>if z.2.cB=true then some (.fr,z.2)else none
def Wn{td ty tx:TE}{fd fk fx:Qqj}(hd:JT K td fd)(hk:JT K ty fk)(hx:JT K tx fx):JT K (Ng td ty tx) (uU fd fk fx):=by
 intro H₀ O H σ env Q m d R h q;let⟨x,ex,h⟩:=aw h;let⟨y,ey,h⟩:=aw h;let⟨z,ez,h⟩:=aw h;let⟨ks,i9,h⟩:=aw h;refine hd H₀ O H σ env _ x.1 x.2 R ex λv H1 s1 h1=>?_;rw[yx i9]at h1;let⟨a,adW,rfl,rd0,_⟩:=h1.dt;refine⟨a,rfl,.inr ⟨adW,rd0⟩,hk H₀ O H1 σ env _ y.1 y.2 (R.keep s1) ey λw H2 s2 h2=>?_⟩;refine hx H₀ O H2 σ env _ z.1 z.2 ((R.keep s1).keep s2) ez λu H3 s3 h3=>?_;let⟨a',aj,e',rd,en⟩:=((h1.keep s2).keep s3).dt;cases e';let s:=(s1.trans s2).trans s3;let dflt:(if z.2.cB=true then some (M.fr,z.2)else none)=some (m,d)→Q u H3:=λh=>by
  split at h
  ·rename_i hi;cases h;exact q u H3 s (show Rp K _ H3 u z.2 from h3.weak.im hi)
  ·cases h
 split at h
 ·rename_i hy;rw[hy]at h2;exact⟨none,.inr ⟨aj,rd,h2.non,rfl⟩,dflt h⟩
 ·let⟨k,ek,h⟩:=aw h;let⟨b,rfl,hb⟩:=uw ek h2.weak;refine⟨fG aj k,.inl (.inr ⟨aj,k,b,rd,rfl,s3 _ _ hb,rfl⟩),?_⟩;rcases en.val k with⟨z1,z2⟩|⟨d2,v2,z1,z2,r⟩
  ·rw[z1]at h;rw[z2];exact dflt h
  ·rw[z1]at h;cases h;rw[z2];exact q v2 H3 s (Val.el r)
def nX(i:Nat)(e:Ev):Option (M×List (List Key×D)):=match e[i]? with
 |some (some (m,.dt ds))=>if own m=true then some (m,ds)else none
 |_=>none
def LC{i:Nat}{e:Ev}{m:M}{ds:List (List Key×D)}(h:nX i e=some (m,ds)):e[i]?=some (some (m,.dt ds))∧own m=true:=by
 unfold nX at h;split at h
 ·rename_i e;split at h
  ·cases h;exact⟨e,by assumption⟩
  ·cases h
 ·cases h
def Rel.adX{i:Nat}{m:M}{ds:List (List Key×D)}(R:Rel K H₀ I O H σ env)(h:nX i env=some (m,ds)):∃p aj,σ[i]?=some (some (.ref p))∧O p∧H p=some (.dT aj)∧Ent K (λa=>¬O a∧H₀ a=none) H aj ds:=by
 let⟨e,o⟩:=LC h;let⟨v,hv,n,hm⟩:=R.e.at e;cases m<;>simp only[own]at o<;>try (cases o;done)
 ·let⟨p,rfl,h1,h2,xs,c,z,r⟩:=hm;exact⟨p,xs,hv,h1,c,z,r⟩
 ·let⟨p,rfl,h1,xs,c,z,r⟩:=hm;exact⟨p,xs,hv,h1,c,z,r⟩
def Rel.adY{i:Nat}{m:M}{ds:List (List Key×D)}{p:Addr}{xs ys:List (List Key×V)}{es:List (List Key×D)}(R:Rel K H₀ I O H σ env)(h:nX i env=some (m,ds))(hp:σ[i]?=some (some (.ref p)))(hx:H p=some (.dT xs))(r:Ent K (λa=>¬O a∧H₀ a=none) H ys es) :
  Rel K H₀ I O (L2.upd H p (.dT ys)) σ (env.set i (some (m,.dt es)))∧aQ O H O (L2.upd H p (.dT ys)):=by
 let⟨e,o⟩:=LC h;let hO:=(R.oY e o hp).1;exact R.mut e o hp ⟨ys,bQ,r.1,r.2.upd hO hx (λz=>z)⟩
def nL(i:Nat)(fk fe:Qqj):Qqq:=λe=>(fe e).bind λx=>(fk e).bind λy=>(mO y.2).bind λk=>if cY x.1 x.2=true then (nX i e).bind λz=>if z.2.length<sizeLine then some (.nx (e.set i (some (z.1,.dt (putD z.2 k x.2)))))else none else none
def Yf{i:Nat}{t tk:TE}{f fk:Qqj}(h:JT K t f)(hk:JT K tk fk):JS K (u9 (iw i) tk t) (nL i fk f):=by
 intro H₀ I O H σ env Ds fl R e q;let⟨x,ex,e⟩:=aw e;let⟨y,ey,e⟩:=aw e;let⟨k,ek,e⟩:=aw e;split at e
 ·rename_i hs;let⟨⟨m,ds⟩,ez,e⟩:=aw e;split at e
  ·rename_i hl;cases e;let⟨p,aj,hp,hO,hx,r⟩:=R.adX ez;refine h H₀ O H σ env _ x.1 x.2 R.e ex λv H1 s1 h1=>?_;refine⟨.ref p,hp,?_⟩;refine hk H₀ O H1 σ env _ y.1 y.2 (R.keep s1).e ey λw H2 s2 h2=>?_;let⟨b,rfl,hb⟩:=uw ek h2.weak;let s:=s1.trans s2;refine⟨p,_,rfl,.inr ⟨aj,k,b,s _ _ hx,rfl,hb,by rw[r.len];exact hl,rfl⟩,?_⟩;let⟨R2,st⟩:=(R.keep s).adY (ys:=putK aj k v) (es:=putD ds k x.2) ez hp (s _ _ hx) (Ent.put ⟨r.1,r.2.keep (.same s)⟩ ((h1.keep s2).cY hs));exact q O _ σ R2 ((aQ.same s).trans st)
  ·cases e
 ·cases e
end
section
variable {K:Qzk}{N:Qzj}{H H' H₀:Hp}{I:Nat→Qxx}{O:Qzj}{σ:L2.St}{env:Ev}
def Ff(k:List Key):D:=.tup (k.map pS)
def Nh{N:Qzj}(k:Key):Rp K N H (kV k) (pS k):=by
 cases k with
 |inl i=>exact .int i
 |inr x=>exact .str x
 |non=>exact .non
theorem Kp{N:Qzj}:∀ks:List Key,aB K N H (ks.map kV) (ks.map pS)
 |[]=>.nil
 |k::ks=>.cons (Nh k) (Kp ks)
def uV:List (M×D)→Qzq
 |[(m,.dt ks)]=>if own m=true∨m=.un then some (.un,.lst (ks.map λkv=>Ff kv.1))else none
 |_=>none
def UB{X:Cx}(h:X.K=K)(hc:X.calm=true):iP X (.type "list") (λxs H Q=>∃d aj,xs=[.ref d]∧H d=some (.dT aj)∧∀l bs,H l=none→qV H (aj.map (·.1)) bs→Q (.ref l) (upd H l (.lst (bs.map V.ref)))):=T6 hc
theorem Je{N:Qzj}{p:Addr}{o:HO}(hp:H p=none):∀{ks:List (List Key)}{bs:List Addr},qV H ks bs→aB K N (upd H p o) (bs.map V.ref) (ks.map Ff)
 |_,_,.nil=>.nil
 |_,_,.cons h t=>.cons (.tup (.inl (by rw[aI (eZ h hp)];exact h)) (Kp _)) (Je hp t)
set_option tactic.hygienic true in
def Vd:lR K (λxs H Q=>∃d aj,xs=[.ref d]∧H d=some (.dT aj)∧∀l bs,H l=none→qV H (aj.map (·.1)) bs→Q (.ref l) (upd H l (.lst (bs.map V.ref)))) uV:=by
 intro H₀ O H vs ay Q m d od hd hv h q;unfold uV at h;split at h
 ·rename_i m0 ks;split at h
  ·rename_i hm;cases h;let⟨v,rfl,hw⟩:=hv.one;have:∃p aj,v=.ref p∧H p=some (.dT aj)∧aj.map (·.1)=ks.map (·.1):=by
    cases m0<;>simp only[own,Bool.false_eq_true,false_or,reduceCtorEq,or_false,or_self]at hm<;>simp only[Val,Cell]at hw
    ·let⟨p,rfl,_,_,_,xs,c,z,_⟩:=hw;exact⟨p,xs,rfl,c,z⟩
    ·let⟨p,rfl,_,_,xs,c,z,_⟩:=hw;exact⟨p,xs,rfl,c,z⟩
    ·let⟨p,rfl,_,xs,c,z,_⟩:=hw;exact⟨p,xs,rfl,c,z⟩
   let⟨p,aj,rfl,e,ek⟩:=this;refine⟨p,aj,rfl,e,λl bs hl ka=>q _ _ (dn hl) ⟨l,rfl,hl,k5 hd hl,iN od hl,_,bQ,?_⟩⟩;rw[ek]at ka;have:=Je (K:=K) (N:=λa=>(¬O a∧H₀ a=none)∧a≠l) (o:=.lst (bs.map V.ref)) hl ka;rw[gY]at this;exact this
  ·cases h
 ·cases h
def Ve{X:Cx}(h:X.K=K)(hc:X.calm=true):iP X (.builtin "sum") (λxs H Q=>∃(p:Addr) (ns:Qxk),xs=[.ref p]∧b0 K H p (ns.map V.int)∧Q (.int ns.sum) H):=by
 subst h;intro pins s σ H xs us Q I r h;let⟨p,ns,rfl,hq,q⟩:=h;let⟨u,rfl,ru⟩:=vals1 r;cases ru;let⟨its,rv,pl,hz⟩:=I.list hq;let hi:=ints_of rv;let⟨ys,ey⟩:=hi.allInts.items;refine sum_intListG (I.ok.hd hc) (by rw[←ey];exact pl.isList) λh' tk t' hk=>⟨.int ns.sum,H,I.kept (t':=tk) hk,⟨t',?_⟩,q⟩;rw[preSum_eq,List.take_of_length_le (by simp),←nums_intItems,←ey];rw[show its.toArray.toList=its from rfl,hi.numsOf]
def vC:List (M×D)→Qzq
 |[(_,.lst ds)]=>(lB ds).bind λns=>some (.fr,.int ns.sum)
 |_=>none
def Yg:lR K (λxs H Q=>∃(p:Addr) (ns:Qxk),xs=[.ref p]∧b0 K H p (ns.map V.int)∧Q (.int ns.sum) H) vC:=by
 intro H₀ O H vs ay Q m d _ _ hv h q;unfold vC at h;split at h
 ·let⟨ns,en,h⟩:=aw h;cases h;let⟨v,rfl,hw⟩:=hv.one;let⟨p,xs,rfl,hs,r⟩:=hw.lst;rw[yj r en]at hs;exact⟨p,ns,rfl,hs,q _ H (aG.refl H) jT⟩
 ·cases h
end
section
variable {K:Qzk}{N:Qzj}{H H' H₀:Hp}{I:Nat→Qxx}{O:Qzj}{σ:L2.St}{env:Ev}
abbrev vg(n:Nat):List V:=(List.range n).map λ(k:Nat)=>.int (0+(k:Int))
def Rn(ta:TA):TE:=λσ H Q=>ta σ H λvs H1=>∃j:Int,vs=[.int j]∧-(2^62)≤j∧j≤16777216∧∀l,H1 l=none→Q (.ref l) (upd H1 l (.lst (vg j.toNat)))
theorem uh:∀{n:Nat}{acc:Qxz}{c:Int},acc.length=n→(∀(j:Nat) v,acc[j]?=some v→∃t,v=.int (c+(j:Int)) t)→Vals ((List.range n).map λ(k:Nat)=>V.int (c+(k:Int))) acc
 |_,[],_,e,_=>by subst e;exact .nil
 |_,v::acc,c,e,h=>by
  subst e;rw[gf,List.range_succ_eq_map,dA,gY];refine .cons (h 0 v rfl) ?_;have:=uh (c:=c+1) (acc:=acc) rfl λj w hw=>by
   let⟨t,e⟩:=h (j+1) w (by simpa using hw);exact⟨t,by rw[e];congr 1;omega⟩
  let e2:((λ(k:Nat)=>V.int (c+(k:Int)))∘Nat.succ)=λ(k:Nat)=>V.int (c+1+(k:Int)):=funext λk=>by
   show V.int (c+((k+1:Nat):Int))=_;congr 1;omega
  rw[e2];exact this
def ace {X:Cx}{a:Expr}{ta:TA}{p pos p' pos':Pos} (hc:X.calm=true) (sZ:Gl X "list") (kM:X.mg "list" = none) (hg:Gl X "range") (hm:X.mg "range" = none) (ha:PA X [a] ta) (hs:starEach [a] X.env=[(false,eval a X.env)]:=by rfl):PE X (.Call (.Name "list" p') [.Call (.Name "range" p) [a] [] pos] [] pos') (Rn ta):=by
 intro pins s σ H Q I h;refine Call_ (lg I sZ kM PyProof.Rows.Boot.«list» (p6 ?_ rfl rfl));show wpAny _ _ (spliced ((false,eval (.Call (.Name "range" p) [a] [] pos) X.env)::backTo pos' (starEach [] X.env))) _ _ s;refine vH ?_;refine Call_ (lg I hg hm boot_range (p6 (aK (ha pos pins s σ H _ I h) λus s1 ⟨vs,H1,I1,r1,q1⟩=>?_) hs rfl));let⟨j,e,q1,q2,q⟩:=q1;subst e;cases r1 with
 |cons r rr =>
  cases rr;let⟨t,rfl⟩:=r;refine call_range_1 (args_nil ?_);let h62:(2:Int)^62=4611686018427387904:=by decide
  let en:Builtin.Range.rangeSize 0 j 1=(j.toNat:Int):=by rw[rangeSize_one];split<;>omega
  refine call_list_range (I1.ok.hd hc) (IsRange.new ..) (small_one (by omega) (by omega) q1 (by omega)) en (by rw[show(2:Nat)^24=16777216 by decide];omega) λh' tk acc c hk hS hI=>?_;let I2:L2.Inv X pins σ H1 { s1 with heap:=s1.heap.push { cls:=.type "range",data:=.fields #[.int 0 s1.toks,.int j t,.int 1 (s1.toks+1)] },toks:=s1.toks+1+1 }:=I1.kept (t':=s1.toks+1+1) λb o e=>cG _ e;refine⟨.ref _,_,I2.laid (t':=tk) (o:=.lst (vg j.toNat)) hk (aW _) ?_,rfl,q _ (I2.aH.fresh (aW _))⟩;refine⟨?_,acc.toList,c,uh (by rw[n6];exact hI.1) (λi v hv=>?_),by rw[Array.toArray_toList];exact hS⟩
  ·have:sizeLine=16777216:=by decide
   rw[this,vg,eU,vP];omega
  ·let⟨t',e⟩:=hI.2 i v (by rw[←n9];exact hv);exact⟨t',by rw[e,Int.mul_one]⟩
def tf(fs:Qqz):Qqj:=λe=>(fs e).bind λl=>match l with
 |[(_,.int j)]=>if -4611686018427387904≤j∧j≤16777216 then some (.un,.lst (cu 0 j.toNat))else none
 |_=>none
def Yh:∀n,aB K N H (vg n) (cu 0 n):=λn=>by
 unfold vg cu
 induction (List.range n) with
 |nil=>exact .nil
 |cons a l ih=>exact .cons (.int _) ih
def acf{t:TA}{fs:Qqz}(h:iI K t fs):JT K (Rn t) (tf fs):=by
 intro H₀ O H σ env Q m d R e q;let⟨l,el,e⟩:=aw e;split at e
 ·split at e
  ·rename_i hj;cases e;refine h H₀ O H σ env _ _ R el λvs H1 s1 h1=>?_;let⟨v,rfl,hv⟩:=h1.one;obtain rfl:=hv.int;let R1:=R.keep s1;exact⟨_,rfl,by rw[AX];exact hj.1,hj.2,λl hl=>q _ _ (s1.trans (dn hl)) ((uv R1.od R1.hd hl (Yh _)).hb λa z=>s1.free z)⟩
  ·cases e
 ·cases e
end
end J
namespace J
open PySem L2
def zO(K:Qzk)(n:Nat)(F:Qzz→Option D):Sp:=λvs H Q _=>vs.length=n∧∃ds d,uR K H [0] vs ds∧F ds=some d ∧
 ∀p H',(ic [0] vs p∨H p=none)→(∀a o,¬ic [0] vs a→H a=some o→H' a=some o)→(∀a o,H a=some o→∃o',H' a=some o')→Cell K (λ_=>False) H' p d→Q (.ref p) H'
def nM:Fl→Option D
 |.rt _ m d=>if own m=true∧gk d=true then some d else none
 |_=>none
def lF(L:Nat)(g:Qqq):Qzz→Option D:=λds=>(g (jj [0] ds++List.replicate (L-ds.length) none)).bind nM
section
variable {K:Qzk}{H H' H₀:Hp}{I:Nat→Qxx}{O O':Qzj}{σ:L2.St}{env:Ev}
def Vf{ts:TS}{g:Qqq}{n:Nat}{N:Qjz}{vs:List V}{Q:VK}{E:XK}(h:JS K ts g)(hs:zO K n (lF N.length g) vs H Q E):ts { nx:=λ_ H'=>Q .non H',rt:=Q } (L2.start N vs) H:=by
 let⟨hl,ds,d,A,e,q⟩:=hs;let⟨fl,ef,eo⟩:=aw e;let⟨I0,lS,R⟩:=Iy (N:=N) A;refine h H I0 (ic [0] vs) H _ _ _ fl R ef ?_;cases fl with
 |nx e'=>cases eo
 |bk e'=>cases eo
 |ct e'=>cases eo
 |rt e' m' d' =>
  intro O' H' σ' v R' st hv;unfold nM at eo;simp only at eo;split at eo
  ·rename_i hm;cases eo;let hc:∃p,v=.ref p∧O' p∧Cell K (λ_=>False) H' p d:=by
    cases m'<;>try (cases hm.1;done)
    ·let⟨p,rfl,o,_,c⟩:=hv;exact⟨p,rfl,o,c.im hm.2⟩
    ·let⟨p,rfl,o,c⟩:=hv;exact⟨p,rfl,o,c.im hm.2⟩
   let⟨p,rfl,o,c⟩:=hc;refine q p H' ?_ (λa o n e=>R'.fr a o (λi z=>n ⟨i,(lS z).1,(lS z).2⟩) e) R'.e.hd c;rcases R'.ow p o with⟨i,z⟩|z
   ·exact .inl ⟨i,(lS z).1,(lS z).2⟩
   ·exact .inr z
  ·cases eo
def mC(sl:Qxj)(pos:List (Nat×Nat))(F:Qzz→Option D)(fs:Qqz):Qqq:=λe=>(fs e).bind λay=>if jJ [0] sl pos ay=true then (F (ay.map (·.2))).bind λd=>match ay with
 | (m,_)::_=>some (.rt (e.map λ_=>none) m d)
 |[]=>none else none
def uz{i:Nat}{x:M×D}(h:(env.map λ_=>(none:Qzq))[i]?=some (some x)):False:=by
 rw[cA]at h;cases q:env[i]? with
 |none=>rw[q]at h;cases h
 |some y=>rw[q]at h;cases h
def Wo{n:Nat}{sl:Qxj}{pos:List (Nat×Nat)}{F:Qzz→Option D}{fs:Qqz}{ta:TA}{E:XK}(ha:kK K ta fs pos)(hl:∀e ay,fs e=some ay→ay.length=n):JS K (rJ (nG (zO K n F) [] E ta)) (mC sl pos F fs):=by
 intro H₀ I O H σ env Ds fl R e q;let⟨ay,em,e⟩:=aw e;split at e
 ·rename_i hb;let ok:=M7 hb;let⟨d,eF,e⟩:=aw e;cases ay with
  |nil=>cases e
  |cons x0 rest =>
   let⟨m0,d0⟩:=x0;cases e;refine ha H₀ O H σ env _ _ R.e em λvs H1 s1 hv hp=>?_;let R1:=R.keep s1;let⟨pQ,j6,sub,A⟩:=Lr R R1 ok hv hp;rw[sj];refine⟨by rw[←cM hv];exact hl _ _ em,_,d,A,eF,λp H2 G5 kp hdm c=>?_⟩;let⟨om,cm⟩:=ok.c4 0 _ (List.mem_singleton.mpr rfl) rfl;let hpO:¬O p→H1 p=none:=λz=>G5.elim (λw=>absurd (sub p w) z) id;let hp0:O p∨H₀ p=none:=by
    rcases G5 with w|w
    ·exact .inl (sub p w)
    ·right
     cases z:H₀ p with
     |none=>rfl
     |some o=>let⟨o',z⟩:=R1.e.hd p o z;rw[w]at z;cases z
   let hbo:m0=.bo→H₀ p=none:=λhm=>by
    rcases G5 with⟨i,hi,i7⟩|w
    ·let⟨k,j,x,hk,hj,hx,hs,he,_⟩:=j6 hi i7;let G6:i=0:=List.mem_singleton.mp hi;subst G6;simp at hx;subst hx;let⟨v,iK,_,hz⟩:=R1.e.at he;rw[hs]at iK;cases iK;rw[hm]at hz;let⟨p',e',_,z,_⟩:=hz;cases e';exact z
    ·cases z:H₀ p with
     |none=>rfl
     |some o=>let⟨o',z⟩:=R1.e.hd p o z;rw[w]at z;cases z
   let R2:Rel K H₀ I (λa=>a=p∨(O a∧¬ic [0] vs a)) H2 σ (env.map λ_=>none):=by
    refine⟨⟨kZ (by rw[eU];exact cM R.e.sl) (λj a b h1 _ m d ea=>by subst ea;exact(uz h1).elim),?_,?_,?_⟩,?_,?_,λi d p h1=>(uz h1).elim,λi j x y p h1=>(uz h1).elim,⟨λi j d d' h1=>(uz h1).elim,λi j d x p q xs h1=>(uz h1).elim⟩⟩
    ·rintro a (rfl|⟨ho,ni⟩)
     ·let⟨o,eo,_⟩:=c.some;exact⟨o,eo⟩
     ·let⟨o,eo⟩:=R1.e.od a ho;exact⟨o,kp a o ni eo⟩
    ·intro a o h0;let⟨o',h1⟩:=R1.e.hd a o h0;exact hdm a o' h1
    ·rintro a o (rfl|⟨ho,ni⟩) ea
     ·let⟨o',eo,nt⟩:=c.some;rw[eo]at ea;cases ea;exact nt
     ·let⟨o',eo⟩:=R1.e.od a ho;have:=kp a o' ni eo;rw[this]at ea;cases ea;exact R1.e.on a _ ho eo
    ·intro a o ni h0;refine kp a o (λw=>?_) (R1.fr a o ni h0);rcases R1.ow a (sub a w) with⟨i,z⟩|z
     ·exact ni i z
     ·rw[z]at h0;cases h0
    ·rintro a (rfl|⟨ho,_⟩)
     ·rcases hp0 with z|z
      ·exact R1.ow a z
      ·exact .inr z
     ·exact R1.ow a ho
   refine q (λa=>a=p∨(O a∧¬ic [0] vs a)) H2 σ (.ref p) R2 (λa o ha no=>⟨kp a o (λw=>no (sub a w)) (s1 _ _ ha),?_⟩) ?_
   ·rintro(rfl|⟨ho,_⟩)
    ·have:=hpO no;rw[s1 _ _ ha]at this;cases this
    ·exact no ho
   ·cases m0<;>try (cases om;done)
    ·exact⟨p,rfl,.inl rfl,hbo rfl,c.wk λ_ z _=>z.elim⟩
    ·exact⟨p,rfl,.inl rfl,c.wk λ_ z _=>z.elim⟩
 ·cases e
end
def wL(K:Qzk):TG:=EA K 2 (y6 (gW 0) (y6 (gW 1) Ez))
section
variable {K:Qzk}{H H' H₀:Hp}{O:Qzj}{σ:L2.St}{env:Ev}
end
def Fg(neg:Bool)(fk fd:Qqj):Qqj:=λe=>(fk e).bind λy=>(fd e).bind λx=>(lE x.2).bind λks=>(mO y.2).bind λk=>some (.fr,.bl (if neg then !(dz ks k).isSome else (dz ks k).isSome))
section
variable {K:Qzk}{H H' H₀:Hp}{O:Qzj}{σ:L2.St}{env:Ev}
def aaG{td ty:TE}{fd fk:Qqj}(hk:JT K ty fk)(hd:JT K td fd):JT K (EL ty td) (Fg false fk fd):=by
 intro H₀ O H σ env Q m d R h q;let⟨y,ey,h⟩:=aw h;let⟨x,ex,h⟩:=aw h;let⟨ks,i9,h⟩:=aw h;let⟨k,ek,h⟩:=aw h;cases h;refine hk H₀ O H σ env _ y.1 y.2 R ey λw H1 s1 h1=>?_;refine hd H₀ O H1 σ env _ x.1 x.2 (R.keep s1) ex λv H2 s2 h2=>?_;rw[yx i9]at h2;let⟨a,aj,rfl,rd,en⟩:=h2.dt;let⟨b,rfl,hb⟩:=uw ek (h1.keep s2).weak;refine⟨a,fG aj k,rfl,.inr ⟨aj,k,b,rd,rfl,hb,rfl⟩,?_⟩;rw[en.isSome];exact q _ H2 (s1.trans s2) fE
def Vg{td ty:TE}{fd fk:Qqj}(hk:JT K ty fk)(hd:JT K td fd):JT K (Dm ty td) (Fg true fk fd):=by
 intro H₀ O H σ env Q m d R h q;let⟨y,ey,h⟩:=aw h;let⟨x,ex,h⟩:=aw h;let⟨ks,i9,h⟩:=aw h;let⟨k,ek,h⟩:=aw h;cases h;refine hk H₀ O H σ env _ y.1 y.2 R ey λw H1 s1 h1=>?_;refine hd H₀ O H1 σ env _ x.1 x.2 (R.keep s1) ex λv H2 s2 h2=>?_;rw[yx i9]at h2;let⟨a,aj,rfl,rd,en⟩:=h2.dt;let⟨b,rfl,hb⟩:=uw ek (h1.keep s2).weak;refine⟨a,fG aj k,rfl,.inr ⟨aj,k,b,rd,rfl,hb,rfl⟩,?_⟩;rw[en.isSome];exact q _ H2 (s1.trans s2) fE
end
section
variable {K:Qzk}{H H' H₀:Hp}{I:Nat→Qxx}{O:Qzj}{σ:L2.St}{env:Ev}
def vh{e:Ev}{i:Nat}{x:M×D}(h:(e.map λ_=>(none:Qzq))[i]?=some (some x)):False:=by
 rw[cA]at h;cases q:e[i]? with
 |none=>rw[q]at h;cases h
 |some y=>rw[q]at h;cases h
def Rel.acg(R:Rel K H₀ I O H σ env):Rel K H₀ I (λ_=>False) H σ (env.map λ_=>none) :=
 ⟨⟨kZ (by rw[eU];exact cM R.e.sl) λj a b h1 _ m d e=>by subst e;exact(vh h1).elim,λ_ z=>z.elim,R.e.hd,λ_ _ z=>z.elim⟩,R.fr,λ_ z=>z.elim,λi d p h=>(vh h).elim,λi j x y p h=>(vh h).elim,⟨λi j d d' h=>(vh h).elim,λi j d x p q xs h=>(vh h).elim⟩⟩
def A7(x:M×D):Bool:=x.2.cB||(gk x.2&&(match x.1 with
 |.un=>true
 |.bo=>true
 |_=>false))
def aaH{x:M×D}{v:V}{Hb:Hp}(h:A7 x=true)(hv:Val K H₀ O Hb H x.1 x.2 v):UT K (λq=>HE q=none∧H₀ q=none∧¬False) H x.2 v:=by
 let⟨m,d⟩:=x;unfold A7 at h;rw[Bool.or_eq_true,lI]at h;rcases h with h|⟨h1,h2⟩
 ·exact .inl ⟨h,hv.weak.im h⟩
 ·cases m<;>try (exact absurd h2 bx)
  ·let⟨p,rfl,_,z,_,c⟩:=hv;exact .inr ⟨p,rfl,⟨rfl,z,id⟩,c.im h1⟩
  ·let⟨p,rfl,_,z,c⟩:=hv;exact .inr ⟨p,rfl,⟨rfl,z,id⟩,c.im h1⟩
def Ow(fs:Qqz):Qqq:=λe=>(fs e).bind λay=>if ay.length≤sizeLine∧(ay.all A7)=true then some (.rt (e.map λ_=>none) .ut (.tup (ay.map (·.2))))else none
theorem UT.keep{F:Qzj}{d:D}{v:V}(s:aG H H')(h:UT K F H d v):UT K F H' d v:=by
 rcases h with⟨z1,z2⟩|⟨q,z1,z2,c⟩
 ·exact .inl ⟨z1,z2.keep (.same s)⟩
 ·let⟨o,e,_⟩:=c.some;exact .inr ⟨q,z1,z2,c.keep (.same s) ((s _ _ e).trans e.symm)⟩
theorem Ni:∀{ay:List (M×D)}{vs:List V}{Hb:Hp},ay.all A7=true→gK K H₀ O Hb H ay vs→Paired (UT K (λq=>HE q=none∧H₀ q=none∧¬False) H) (ay.map (·.2)) vs
 |[],_,_,_,.nil=>.nil
 |x::r,_,_,h,.cons a t=>by
  rw[p9,lI]at h;exact .cons (aaH h.1 a) (Ni h.2 t)
def Yi{ta:TA}{fs:Qqz}(ha:iI K ta fs):JS K (rJ (EG ta)) (Ow fs):=by
 intro H₀ I O H σ env Ds fl R e q;let⟨ay,em,e⟩:=aw e;split at e
 ·rename_i hc;cases e;refine ha H₀ O H σ env _ ay R.e em λvs H1 s1 h1=>⟨by rw[←cM h1];exact hc.1,λp hp=>?_⟩;let s2:aG H1 (upd H1 p (.tup vs)):=dn hp;let s:=s1.trans s2;exact q _ _ σ _ (R.keep s).acg (λa o h _=>⟨s a o h,id⟩) ⟨p,vs,_,rfl,rfl,.inl bQ,Paired.mE (Ni hc.2 h1) λd v z=>z.keep s2⟩
 ·cases e
def Rel.Ro{i:Nat}{v:V}(R:Rel K H₀ I O H σ env):Rel K H₀ I O H (σ.set i (some v)) (env.set i none):=by
 let at_:∀{j:Nat}{x:M×D},(env.set i none)[j]?=some (some x)→j≠i∧env[j]?=some (some x):=λ{j x} h=>by
  rcases get_set h with⟨_,z⟩|z
  ·cases z
  ·exact z
 let tm:∀{j:Nat}{y:Option V},j≠i→(σ.set i (some v))[j]?=some y→σ[j]?=some y:=λ{j y} n h=>by rwa [eR (λz=>n z.symm)]at h
 refine⟨⟨kZ (by rw[gd,gd];exact cM R.e.sl) λj a b h1 h2 m d e=>?_,R.e.od,R.e.hd,R.e.on⟩,R.fr,R.ow,λi' d' p h1 p1=>R.ba i' d' p (at_ h1).2 (tm (at_ h1).1 p1),λi' j x y p h1 h2 o1 o2 p1 p2=>R.dj i' j x y p (at_ h1).2 (at_ h2).2 o1 o2 (tm (at_ h1).1 p1) (tm (at_ h2).1 p2),⟨λi' j d1 d2 h1 h2=>R.nd.1 i' j d1 d2 (at_ h1).2 (at_ h2).2,λi' j d1 x p q xs h1 p1 h2 o2 p2 e=>R.nd.2 i' j d1 x p q xs (at_ h1).2 (tm (at_ h1).1 p1) (at_ h2).2 o2 (tm (at_ h2).1 p2) e⟩⟩;subst e;let⟨nj,h1⟩:=at_ h1;let⟨w,hw,n,hz⟩:=R.e.at h1;rw[tm nj h2]at hw;exact⟨n,w,by simpa using hw,hz⟩
def Cs(Hb H:Hp)(xs:List V)(ds:Qzz)(n:Nat):Prop:=∀(k:Nat) (d:D),ds[k]?=some d→(∀l,d=.lst l→∃q ys,xs[k]?=some (.ref q)∧Hb q=none∧H q=some (.lst ys)∧ys.length≤l.length+n)∧∀ks,d=.dk ks→∃q aj,xs[k]?=some (.ref q)∧Hb q=none∧H q=some (.dK aj)∧aj.length≤ks.length+n
def Cs.keep{Hb:Hp}{xs:List V}{ds:Qzz}{n:Nat}(s:aG H H')(h:Cs Hb H xs ds n):Cs Hb H' xs ds n:=λk d e=>⟨λl el=>let ⟨q,ys,a,b,c,z⟩:=(h k d e).1 l el;⟨q,ys,a,b,s _ _ c,z⟩,λks el=>let ⟨q,ys,a,b,c,z⟩:=(h k d e).2 ks el;⟨q,ys,a,b,s _ _ c,z⟩⟩
def Cs.of{Hb:Hp}{F:Qzj}{xs:List V}{ds:Qzz}(w:∀q,F q→Hb q=none)(h:Paired (UT K F H) ds xs):Cs Hb H xs ds 0:=λk d e=>by
 let⟨v,hv,z⟩:=E3 h e;refine⟨λl el=>?_,λks el=>?_⟩
 ·subst el;rcases z with⟨z,_⟩|⟨q,rfl,f,c⟩
  ·cases z
  ·let⟨ys,c,r⟩:=c;exact⟨q,ys,hv,w q f,c,oa r.len⟩
 ·subst el;rcases z with⟨z,_⟩|⟨q,rfl,f,c⟩
  ·cases z
  ·let⟨ys,c,e,r⟩:=c;have:=de List.length e;rw[eU,eU]at this;exact⟨q,ys,hv,w q f,c,oa this⟩
def A8(K:Qzk)(i:Nat)(ts:TS)(c:Ev→Nat→Qzz→Bool):Prop :=
 ∀H₀ I O Hb H σ env Ds a xs ds n,Rel K H₀ I O Hb σ env→σ[i]?=some (some (.ref a))→aG Hb H→bC K H a xs→xs.length=ds.length→Cs Hb H xs ds n→c env n ds=true→(∀H',aG Hb H'→bC K H' a xs→Cs Hb H' xs ds (n+1)→Ds.nx σ H')→ts Ds σ H
def LD{a q:Addr}{xs:List V}{o o':HO}(h:bC K H a xs)(e:H q=some o)(n:¬ia o):bC K (upd H q o') a xs:=by
 rcases h with h|h
 ·refine .inl ?_;rw[aI (λz=>by subst z;rw[h]at e;cases e;exact n trivial)];exact h
 ·exact .inr h
def Kq{Hb:Hp}{q:Addr}{o:HO}(s:aG Hb H)(h:Hb q=none):aG Hb (upd H q o):=λa u e=>by
 rw[aI (eZ e h)];exact s a u e
def Cs.adZ{Hb:Hp}{xs:List V}{ds:Qzz}{n:Nat}{q:Addr}{ys:List V}{y:V}(h:Cs Hb H xs ds n)(e:H q=some (.lst ys)):Cs Hb (upd H q (.lst (ys++[y]))) xs ds (n+1):=λk d ed=>by
 refine⟨λl el=>?_,λks el=>?_⟩
 ·let⟨p,zs,a,b,c,z⟩:=(h k d ed).1 l el;by_cases w:p=q
  ·subst w;rw[e]at c;cases c;exact⟨p,_,a,b,bQ,by rw[fw];simp only[List.length_cons,List.length_nil];omega⟩
  ·exact⟨p,zs,a,b,by rw[aI w];exact c,by omega⟩
 ·let⟨p,zs,a,b,c,z⟩:=(h k d ed).2 ks el;exact⟨p,zs,a,b,by rw[aI (rj c e (λw=>nomatch w))];exact c,by omega⟩
def Cs.ad0{Hb:Hp}{xs:List V}{ds:Qzz}{n:Nat}{q:Addr}{aj:List (Key×V)}{k:Key}{v:V}(h:Cs Hb H xs ds n)(e:H q=some (.dK aj)):Cs Hb (upd H q (.dK (putK aj k v))) xs ds (n+1):=λj d ed=>by
 refine⟨λl el=>?_,λks el=>?_⟩
 ·let⟨p,zs,a,b,c,z⟩:=(h j d ed).1 l el;exact⟨p,zs,a,b,by rw[aI (rj c e (λw=>nomatch w))];exact c,by omega⟩
 ·let⟨p,zs,a,b,c,z⟩:=(h j d ed).2 ks el;by_cases w:p=q
  ·subst w;rw[e]at c;cases c;have:=xW aj k v;exact⟨p,_,a,b,bQ,by omega⟩
  ·exact⟨p,zs,a,b,by rw[aI w];exact c,by omega⟩
def Ox(n:Nat)(ds:Qzz)(k:Int):Bool:=match L2.bp ds k with
 |some (.lst l)=>decide (l.length+n<sizeLine)
 |_=>false
def Oy(n:Nat)(ds:Qzz)(k:Int):Bool:=match L2.bp ds k with
 |some (.dk l)=>decide (l.length+n<sizeLine)
 |_=>false
def Fh(fk f:Qqj):Ev→Nat→Qzz→Bool:=λe n ds=>match fk e,f e with
 |some (_,.int k),some _=>Ox n ds k
 |_,_=>false
def Fm(fk fy f:Qqj):Ev→Nat→Qzz→Bool:=λe n ds=>match fk e,fy e,f e with
 |some (_,.int k),some y,some _=>(keyOf y.2).isSome&&Oy n ds k
 |_,_,_=>false
def Nj{α:Type}{l:List α}{k:Int}{a:α}(h:L2.bp l k=some a):∃j,dh l.length k=some j∧l[j]?=some a:=by
 unfold L2.bp at h;cases q:dh l.length k with
 |none=>rw[q]at h;cases h
 |some j=>rw[q]at h;exact⟨j,rfl,h⟩
def Nk{α:Type}{l:List α}{k:Int}{a:α}{j:Nat}(h:dh l.length k=some j)(e:l[j]?=some a):L2.bp l k=some a:=by
 unfold L2.bp;rw[h];exact e
set_option tactic.hygienic true in
def ach{i:Nat}{t tk:TE}{f fk:Qqj}(hk:JT K tk fk)(h:JT K t f):A8 K i (rq (wa K "list" uF (ou (sO K) (iw i) tk) (nF t mI))) (Fh fk f):=by
 intro H₀ I O Hb H σ env Ds a xs ds n R hs s sq hl cs hc q;unfold Fh at hc;split at hc
 ·rename_i mk k x ek ex;unfold Ox at hc;split at hc
  ·rename_i l el;let hc:=bt hc;let⟨j,ej,ed⟩:=Nj el;let⟨p,ys,hx,hb,hp,le⟩:=(cs j _ ed).1 l rfl;refine⟨.ref a,hs,?_⟩;refine hk H₀ O H σ env _ _ _ (R.keep s).e ek λw H1 s1 hw=>?_;refine .inr (.inl ⟨a,xs,k,.ref p,rfl,hw.int,(Keeps.same (N:=λ_=>True) s1).sq sq,Nk (by rw[hl];exact ej) hx,?_⟩);refine⟨.inl ⟨rfl,ys,.inl (.inl (s1 _ _ hp))⟩,?_⟩;refine h H₀ O H1 σ env _ x.1 x.2 (R.keep (s.trans s1)).e ex λu H2 s2 hu=>?_;let s3:=s1.trans s2;refine⟨p,ys,u,rfl,rfl,s3 _ _ hp,by omega,?_⟩;exact q _ (Kq (s.trans s3) hb) (LD ((Keeps.same (N:=λ_=>True) s3).sq sq) (s3 _ _ hp) (λz=>z)) ((cs.keep s3).adZ (s3 _ _ hp))
  ·cases hc
 ·cases hc
set_option tactic.hygienic true in
def aci{i:Nat}{t tk ty:TE}{f fk fy:Qqj}(hk:JT K tk fk)(hy:JT K ty fy)(h:JT K t f):A8 K i (u9 (ou (sO K) (iw i) tk) ty t) (Fm fk fy f):=by
 intro H₀ I O Hb H σ env Ds a xs ds n R hs s sq hl cs hc q;unfold Fm at hc;split at hc
 ·rename_i mk k y x ek ey ex;let⟨hk1,hc⟩:=Bool.and_eq_true_iff.mp hc;let⟨kk,ekk⟩:=Option.isSome_iff_exists.mp hk1;unfold Oy at hc;split at hc
  ·rename_i l el;let hc:=bt hc;let⟨j,ej,ed⟩:=Nj el;let⟨p,ys,hx,hb,hp,le⟩:=(cs j _ ed).2 l rfl;refine h H₀ O H σ env _ x.1 x.2 (R.keep s).e ex λu H1 s1 hu=>?_;refine⟨.ref a,hs,?_⟩;refine hk H₀ O H1 σ env _ _ _ (R.keep (s.trans s1)).e ek λw H2 s2 hw=>?_;let G7:=s1.trans s2;refine .inr (.inl ⟨a,xs,k,.ref p,rfl,hw.int,(Keeps.same (N:=λ_=>True) G7).sq sq,Nk (by rw[hl];exact ej) hx,?_⟩);refine hy H₀ O H2 σ env _ y.1 y.2 (R.keep (s.trans G7)).e ey λz H3 s3 hz=>?_;obtain rfl:=oR ekk hz.weak;let s4:=G7.trans s3;refine⟨p,_,rfl,.inl ⟨ys,kk,s4 _ _ hp,rfl,by omega,rfl⟩,?_⟩;exact q _ (Kq (s.trans s4) hb) (LD ((Keeps.same (N:=λ_=>True) s4).sq sq) (s4 _ _ hp) (λz=>z)) ((cs.keep s4).ad0 (s4 _ _ hp))
  ·cases hc
 ·cases hc
abbrev Fn:List (Ev→Nat→Qzz→Bool)→Ev→Nat→Qzz→Bool
 |[],_,_,_=>true
 |c::r,e,n,ds=>c e n ds&&Fn r e (n+1) ds
inductive rZ (K:Qzk)(i:Nat):List TS→List (Ev→Nat→Qzz→Bool)→Prop
 |nil:rZ K i [] []
 |cons {t:TS}{c:Ev→Nat→Qzz→Bool}{ts:List TS}{cs:List (Ev→Nat→Qzz→Bool)}:A8 K i t c→rZ K i ts cs→rZ K i (t::ts) (c::cs)
theorem LJ{i:Nat}{a:Addr}{xs:List V}{ds:Qzz}{tb:TS}{Ds:Ends}:∀{ts:List TS}{cs:List (Ev→Nat→Qzz→Bool)}{n:Nat}{Hb H:Hp},rZ K i ts cs→Rel K H₀ I O Hb σ env→σ[i]?=some (some (.ref a))→aG Hb H→bC K H a xs→xs.length=ds.length→Cs Hb H xs ds n→Fn cs env n ds=true→(∀H',aG Hb H'→tb Ds σ H')→ts.foldr nR tb Ds σ H
 |_,_,_,_,_,.nil,_,_,s,_,_,_,_,q=>q _ s
 |_,_,n,Hb,H,.cons h t,R,hs,s,sq,hl,cs,hc,q=>by
  let⟨h1,h2⟩:=Bool.and_eq_true_iff.mp hc;exact h H₀ I O Hb H σ env _ a xs ds n R hs s sq hl cs h1 λH' s' sq' cs'=>LJ t R hs s' sq' hl cs' h2 q
def Rq(i:Nat)(f:Qqj)(c:Qqx)(r:Qqj)(cs:List (Ev→Nat→Qzz→Bool))(b:Qqq):Qqq:=λe=>(f e).bind λx=>match x with
 | (.ut,.tup ds)=>(c (e.set i (some (.fr,.tup ds)))).bind λz=>if z=true then aF r (e.set i (some (.fr,.tup ds)))else if Fn cs (e.set i none) 0 ds=true∧i<e.length then b (e.set i none)else none
 |_=>none
def acj{i:Nat}{t tr:TE}{tc:TT}{ts:List TS}{tb:TS}{f r:Qqj}{c:Qqx}{cs:List (Ev→Nat→Qzz→Bool)}{b:Qqq}(hf:JT K t f)(hc:fS K tc c)(hr:JT K tr r)(gP:rZ K i ts cs)(hb:JS K tb b) :
  JS K (nR (iy t (gW i)) (nR (zv tc (rJ tr) y4) (ts.foldr nR tb))) (Rq i f c r cs b):=by
 intro H₀ I O H σ env Ds fl R e q;let⟨x,ex,e⟩:=aw e;split at e
 ·rename_i ds;let⟨z,ez,e⟩:=aw e;refine hf H₀ O H σ env _ _ _ R.e ex λv H1 s1 h1=>?_;let R1:Rel K H₀ I O H1 (σ.set i (some v)) (env.set i (some (.fr,.tup ds))):=(R.keep s1).set_plain rfl rfl (show Rp K _ H1 v _ from h1.cY rfl);refine hc H₀ O H1 _ _ _ z R1.e ez λH2 s2=>?_;cases z with
  |true =>
   rw[if_pos rfl]at e ⊢;let⟨y,ey,e⟩:=aw e;cases e;let q':=q.pre (aQ.same (s1.trans s2));exact hr H₀ O H2 _ _ _ y.1 y.2 (R1.keep s2).e ey λw H3 s3 h3=>q' O H3 _ w ((R1.keep s2).keep s3) (aQ.same s3) h3.h0
  |false =>
   rw[if_neg bx]at e ⊢;split at e
   ·rename_i hh;let⟨a,xs,fA,rfl,ed,sq,pr⟩:=h1;cases ed;let s:=s1.trans s2;let hlen:i<σ.length:=by rw[←cM R.e.sl];exact hh.2
    refine LJ (Hb:=H) (n:=0) gP R.Ro (by rw[List.getElem?_set_self hlen]) s ((Keeps.same (N:=λ_=>True) s2).sq sq) (cM pr).symm ((Cs.of (λq z=>z.1) pr).keep s2) hh.1 λH' s'=>?_;exact hb H₀ I O H' _ _ _ fl (R.Ro.keep s') e (q.pre (aQ.same s'))
   ·cases e
 ·cases e
end
end J
namespace J
open PySem PySem.Spec PyProof.Rows L2
section
variable {X:Cx}{pins:Qxq}{σ:L2.St}{H:Hp}{s:Shared}{a it:Addr}
def LK{P:Program}{w:World}{h:Heap}{aj:List (Key×V)}(ok:cK P w H h a (.dK aj)):∃o es ep,h.get? a=some o∧o.ExactDict∧o.data=.dict es ep∧es.size=aj.length∧(∀(i:Nat) kv,aj[i]?=some kv→∃e,es[i]?=some e∧RelV (kV kv.1) e.key)∧(a==sysModules)=false:=by
 let⟨z,lo,vs,rv,o,es,ep,ho,ex,hd,hk,hp,hn⟩:=ok;let e1:=hp.length;let e2:=rv.length;simp only[Array.length_toList]at e1;refine⟨o,es,ep,ho,ex,hd,by omega,λi kv e=>?_,lo⟩;let⟨v,h1,h2⟩:=DX rv e;let hi:i<es.size:=by
  have:=(a9.mp h1).1;omega
 exact⟨es[i],by simp[hi],Ya (hp.get? (e:=es[i]) (by simp[hi]) h1).1⟩
def G8(a:Addr)(o:Obj)(aj:List (Key×V)):It :=
 ⟨λi H=>H a=some (.aZ o (.dK aj))∧i<aj.length,λi H x H'=>H'=H∧∃kv,aj[i]?=some kv∧x=kV kv.1,λi H=>H a=some (.aZ o (.dK aj))∧aj.length≤i⟩
def LN{o:Obj}{aj:List (Key×V)}{es:Array DictEntry}{ep:Nat}(I:L2.Inv X pins σ H s)(e:H a=some (.aZ o (.dK aj)))(hd:o.data=.dict es ep):iQ s.heap a es ep∧es.size=aj.length∧∀(i:Nat) kv,aj[i]?=some kv→∃e,es[i]?=some e∧RelV (kV kv.1) e.key:=by
 let⟨ho,ok⟩:=(I.aH a _ e:cK X.prog X.w H s.heap a (.aZ o (.dK aj)));let⟨o',Ax,Ay,hJ,ex,sH,h1,h2,_⟩:=LK ok;rw[ho]at hJ;cases hJ;rw[hd]at sH;cases sH;exact⟨⟨o,ho,ex,hd⟩,h1,h2⟩
def Vh{P:Program}{w:World}{K:Qzk}{tg:Expr}{o:Obj}{aj:List (Key×V)}{es:Array DictEntry}{ep:Nat}(hd:o.data=.dict es ep):Turn P w K tg (G8 a o aj) [it] it (λi h=>h.IsKeyIter it a i es.size ep) where
 mem:=by simp
 obj:=λi h st b hb=>by
  let e:b=it:=by simpa using hb
  subst e;let⟨o,e,c,d⟩:=st;exact⟨o,e,λv z=>by rw[d]at z;cases z⟩
 keep:=λi h h' st k=>st.at λo e=>k it (by simp) o e
 item:=by
  intro X hP hw hK hc i pins s σ H E I hf st hg;subst hP hw hK;let⟨r,hz,hg'⟩:=LN I hg.1 hd;let⟨f0,f1,f2,f3,f4,f5⟩:=hf it (by simp);let hx:=dC hg.2;let⟨e,he,h2⟩:=hg' i _ hx;refine IY st r he λh' fO sb=>?_;let⟨ob,e1,c1,d1⟩:=id fO;exact⟨_,rfl,uZ (s:={ s with heap:=h' }) e1 c1 d1 (by decide) ⟨_,H,I.turned (t':=s.toks) (λb o hb e=>(sb.2 b hb).trans e) f0 f1 f3 f4 f5,h2,⟨rfl,_,hx,rfl⟩,fO,λb hb=>(hf b hb).1⟩⟩
 done:=by
  intro X hP hw hK hc i pins s σ H E I hf st hg;subst hP hw hK;let⟨r,hz,_⟩:=LN I hg.1 hd;let⟨f0,f1,f2,f3,f4,f5⟩:=hf it (by simp);exact JA (I.ok.hd hc) st r (by rw[hz];exact hg.2) λh' eb=>⟨rfl,I.turned (t':=s.toks) (λb o hb e=>eb b o hb e) f0 f1 f3 f4 f5⟩
 self:=λ_ _ _ _ _ st h=>wpAny_pyIter_keyiter st h
def Oz(td:TE):TI:=λσ H R=>td σ H λx H1=>∃a o aj,x=.ref a∧H1 a=some (.aZ o (.dK aj))∧R (G8 a o aj) H1
def Yj{e:Expr}{td:TE}{tg:Expr}(he:PE X e td):PI X tg e (Oz td):=by
 intro pins s σ H R I h;refine aK (he pins s σ H _ I h) λv s1 ⟨x,H1,I1,r1,a,o,aj,ex,hf,q⟩=>?_;subst ex;obtain rfl:v=Value.ref a:=r1;let⟨ho,ok⟩:=(I1.aH a _ hf:cK X.prog X.w H1 s1.heap a (.aZ o (.dK aj)));let⟨o',es,ep,hJ,ex,hd,hz,_,lo⟩:=LK ok;rw[ho]at hJ;cases hJ;refine IX lo ⟨o,ho,ex,hd⟩ ?_;refine⟨_,[_],_,_,H1,rfl,I1.kept (t':=s1.toks) λb u q=>cG _ q,Vh hd,⟨_,gD _ rfl,rfl,rfl⟩,λb hb=>?_,q⟩;let ng:b=s1.heap.objs.size:=by simpa using hb
 subst ng;exact I1.rK (aW _) (I1.aH.fresh (aW _))
end
section
variable {K:Qzk}{N:Qzj}{H H' H₀:Hp}{I:Nat→Qxx}{O:Qzj}{σ:L2.St}{env:Ev}
def Rr:D→Option (Qzz)
 |.dk ks=>some (ks.map λkv=>pS kv.1)
 |_=>none
def Yk{m:M}(hm:fL m=true)(k:Key):Val K H₀ O HE H m (pS k) (kV k):=by
 cases m<;>first|exact Nh k|cases hm
def Vi{m:M}{a:Addr}{o:Obj}{aj:List (Key×V)}{ks:List (Key×D)}(hm:fL m=true)(e:H a=some (.aZ o (.dK aj)))(ha:¬O a)(r:aj.map (·.1)=ks.map (·.1)):lD K H₀ O (G8 a o aj) H m (ks.map λkv=>pS kv.1):=by
 let hl:aj.length=ks.length:=by simpa using de List.length r
 refine⟨λO2 H2 i st hi=>⟨(st a _ e ha).1,by rw[hl];simpa using hi⟩,?_,λO2 H2 st=>⟨(st a _ e ha).1,by rw[hl,List.length_map];exact aW _⟩⟩;rintro O2 H2 i x H3 st hi ⟨rfl,kv,hx,rfl⟩;refine⟨aG.refl _,pS kv.1,?_,Yk hm _⟩;let h1:(aj.map (·.1))[i]?=some kv.1:=by rw[cA,hx];rfl
 rw[r,cA]at h1;rw[cA];cases q:ks[i]? with
 |none=>rw[q]at h1;cases h1
 |some z=>rw[q]at h1;rw[←eC h1];rfl
def Yl{i:Nat}{g:TG}{tb:TS}{fg:M×D→Ev→Option Ev}{b:Qqq}(hg:JG K g fg)(hb:JS K tb b):JS K (En i (pF (Oz (iw i)) g tb)) (zl Rr i fg b) :=
 Yc (λd ds e=>by cases d<;>first|exact .inl ⟨_,rfl⟩|cases e) (λG O H1 σ m a o u d ds hm hv e1 na dr ed on R' k=>by
  cases d<;>try (cases ed;done)
  cases u<;>try (exact dr.elim)
  cases ed;exact⟨_,hv,a,_,_,rfl,e1,k _ _ (aG.refl _) (Vi hm e1 na dr.1)⟩) hg hb
end
section
variable {K:Qzk}{N:Qzj}{H H' H₀:Hp}{I:Nat→Qxx}{O:Qzj}{σ:L2.St}{env:Ev}
noncomputable abbrev Fj:=Qqj
inductive Ba (K:Qzk):List (TE×TE)→List (Fj×Fj)→Prop
 |nil:Ba K [] []
 |cons {tk tv:TE}{fk fv:Fj}{ts:List (TE×TE)}{fs:List (Fj×Fj)}:JT K tk fk→JT K tv fv→Ba K ts fs→Ba K ((tk,tv)::ts) ((fk,fv)::fs)
end
abbrev Bb{α:Type}(c:Nat→Nat→Bool):PySem.W.KasT α→α
 |.ret a=>a
 |.ask i j k=>Bb c (k (c i j))
abbrev Bd{α:Type}(n:Nat)(R:α→Prop):PySem.W.KasT α→Prop
 |.ret a=>R a
 |.ask i j k=>i<n∧j<n∧∀b,Bd n R (k b)
theorem qN{α β:Type}{n:Nat}{R:α→Prop}{R':β→Prop}{f:α→PySem.W.KasT β}(hf:∀a,R a→Bd n R' (f a)):∀t:PySem.W.KasT α,Bd n R t→Bd n R' (t.bind f)
 |.ret a,h=>hf a h
 |.ask _ _ k,h=>⟨h.1,h.2.1,λb=>qN hf (k b) (h.2.2 b)⟩
def Lq(n:Nat)(p:Array Nat):Prop:=0<n∧p.size=n∧∀x∈p,x<n
def Lq.at{n:Nat}{p:Array Nat}(h:Lq n p)(i:Nat):p.getD i 0<n:=by
 by_cases hi:i<p.size
 ·rw[show p.getD i 0=p[i] by simp[hi]];exact h.2.2 _ (Array.getElem_mem hi)
 ·rw[show p.getD i 0=0 by simp[hi]];exact h.1
def Lq.perm{n:Nat}{p q:Array Nat}(h:Lq n p)(e:q.Perm p):Lq n q:=⟨h.1,e.size_eq.trans h.2.1,λx hx=>h.2.2 x (e.mem_iff.mp hx)⟩
def Lq.rev{n:Nat}{p:Array Nat}(h:Lq n p)(i j:Nat):Lq n (PySem.W.kas_rev p i j):=h.perm (mirror_perm p i j _)
theorem DY{n:Nat}{p:Array Nat}(h:Lq n p):∀f m,Bd n (λ_=>True) (PySem.W.kas_asc p f m)
 |0,_=>trivial
 |f+1,m=>⟨h.at _,h.at _,λb=>by
  cases b
  ·exact DY h f (m+1)
  ·exact trivial⟩
theorem yy{n:Nat}:∀f {p:Array Nat} m q,Lq n p→Bd n (λr=>Lq n r.1) (PySem.W.kas_desc f p m q)
 |0,_,_,_,h=>h
 |f+1,p,m,q,h=>⟨h.at _,h.at _,λb=>by
  cases b
  ·refine⟨h.at _,h.at _,λd=>?_⟩;cases d
   ·exact yy f _ _ h
   ·exact h
  ·show Bd n _ (if q>0 then _ else _);split
   ·exact yy f _ _ (h.rev _ _)
   ·exact yy f _ _ h⟩
def LQ{n m k:Nat}{p:Array Nat}(h:Lq n p):Bd n (λr=>Lq n r.2) (PySem.W.kas_tail3 m k p):=by
 refine qN (R:=λ_=>True) (λm _=>?_) _ (DY (h.rev _ _) _ _);exact h.rev _ _
def LR{n m k:Nat}{p:Array Nat}(h:Lq n p):Bd n (λr=>Lq n r.2) (PySem.W.kas_descPart m k p):=by
 refine qN (λr hr=>?_) _ (yy _ _ _ h);split
 ·exact LQ (Lq.rev hr _ _)
 ·exact LQ hr
def Wq{n k:Nat}{p:Array Nat}(h:Lq n p):Bd n (λr=>Lq n r.2) (PySem.W.kas_count k p):=by
 refine qN (λm _=>?_) _ (DY h _ _);split
 ·exact h
 ·split
  ·refine⟨h.at _,h.at _,λb=>?_⟩;cases b
   ·exact LR (h.rev _ _)
   ·exact h
  ·exact LR h
theorem C4{n k:Nat}{p:Array Nat}(h:Lq n p):∀f l r,Bd n (λ_=>True) (PySem.W.kas_place p k f l r)
 |0,_,_=>trivial
 |f+1,l,r=>by
  unfold PySem.W.kas_place;split
  ·exact trivial
  ·refine⟨h.at _,h.at _,λb=>?_⟩;cases b
   ·exact C4 h f _ _
   ·exact C4 h f _ _
theorem Nm{n:Nat}:∀f {p:Array Nat} k,Lq n p→Bd n (Lq n) (PySem.W.kas_bin f p k)
 |0,_,_,h=>h
 |f+1,_,k,h=>qN (λ_ _=>Nm f (k+1) (h.perm (bubble_perm _ _ _))) _ (C4 h _ _ _)
def LV{n:Nat}(h:0<n):Bd n (Lq n) (PySem.W.kas_sort n):=by
 refine qN (λr hr=>?_) _ (Wq (n:=n) (p:=(List.range n).toArray) ⟨h,by simp,λx hx=>by simpa using hx⟩);split
 ·exact Nm _ _ hr
 ·exact hr
theorem OB{α:Type}{n:Nat}{R:α→Prop}{c:Nat→Nat→Bool}:∀t:PySem.W.KasT α,Bd n R t→R (Bb c t)
 |.ret _,h=>h
 |.ask i j k,h=>OB (k (c i j)) (h.2.2 _)
theorem OD{α:Type}{n:Nat}{cmp:Nat→Nat→(Bool→Shared→Prop)→Shared→Prop}{c:Nat→Nat→Bool}{s:Shared}(hc:∀i j C,i<n→j<n→C (c i j) s→cmp i j C s){R:α→Prop}{Q:α→Shared→Prop}:∀t:PySem.W.KasT α,Bd n R t→Q (Bb c t) s→t.kasWp cmp Q s
 |.ret _,_,q=>q
 |.ask i j k,h,q=>hc i j _ h.1 h.2.1 (OD hc (k (c i j)) (h.2.2 _) q)
abbrev wM(x y:Int×Int):Bool:=if x.1=y.1 then decide (x.2<y.2)else decide (x.1<y.1)
def fY(ps:List (Int×Int)):Qxj:=if ps.length<2 then List.range ps.length else (Bb (λi j=>wM (ps.getD i (0,0)) (ps.getD j (0,0))) (PySem.W.kas_sort ps.length)).toList
def CZ(ps:List (Int×Int)):(fY ps).length=ps.length∧∀i∈fY ps,i<ps.length:=by
 unfold fY;split
 ·exact⟨vP,λi hi=>iC.mp hi⟩
 ·rename_i h;have:=OB (c:=λi j=>wM (ps.getD i (0,0)) (ps.getD j (0,0))) _ (LV (n:=ps.length) (by omega));exact⟨by rw[n6];exact this.2.1,λi hi=>this.2.2 i (by simpa using hi)⟩
section
variable {prog:Program}{w:World}{A:Around}{E:Qzx}{s:Shared}
def jz(h:Heap)(v:Value)(x:Int×Int):Prop:=∃b o n t u,v=.ref b∧h.get? b=some o∧o.cls=.type "tuple" ∧ o.data=.seq #[.int x.1 t,.int x.2 u] n
def Ym{v v':Value}{x y:Int×Int}{Q:Bool→Shared→Prop}(h:jz s.heap v x)(h':jz s.heap v' y)(q:Q (wM x y) s):wpAny (model prog w) A (keyLt' (tuples' true) v v') Q E s:=by
 let⟨b,o,n,t,u,rfl,e,_,hd⟩:=h;let⟨b',o',n',t',u',rfl,e',_,sH⟩:=h';refine PySem.W.kat_lt e hd e' sH (PySem.W.kat_cons (wpAny_eqBool_int ?_));unfold wM at q;by_cases h1:x.1=y.1
 ·rw[if_pos h1]at q;rw[show(x.1==y.1)=true by simp[h1]];refine PySem.W.kat_yes (PySem.W.kat_cons (wpAny_eqBool_int ?_));by_cases h2:x.2=y.2
  ·rw[show(x.2==y.2)=true by simp[h2]];refine PySem.W.kat_yes (PySem.W.kat_nil ?_);rw[show decide (x.2<y.2)=false by simp[h2]]at q;exact q
  ·rw[show(x.2==y.2)=false by simp[h2]];exact PySem.W.kat_no (PySem.W.kat_one _ _ (lt_int q))
 ·rw[if_neg h1]at q;rw[show(x.1==y.1)=false by simp[h1]];exact PySem.W.kat_no (oneLt_int q)
theorem Kr{h:Heap}:∀{vs:Qxz}{ps:List (Int×Int)},Paired (jz h) vs ps→∃fs,PySem.W.KatTups h vs fs∧fs.length=ps.length∧∀v∈fs,∃i t,v=Value.int i t
 |_,_,.nil=>⟨[],PySem.W.KatTups.nil,rfl,λ_ h=>absurd h List.not_mem_nil⟩
 |_,_,.cons x r=>by
  let⟨b,o,n,t,u,e0,e,hc,hd⟩:=x;let⟨fs,h1,h2,h3⟩:=Kr r;subst e0;refine⟨_::fs,PySem.W.KatTups.cons e hc hd (by rfl) h1,by rw[gf,gf,h2],λv hv=>?_⟩;rcases dN.mp hv with rfl|hv
  ·exact⟨_,_,rfl⟩
  ·exact h3 v hv
def Wr{vs:Qxz}{ps:List (Int×Int)}{Q:SortKind→Shared→Prop}(h:Paired (jz s.heap) vs ps)(hn:0<ps.length)(q:Q (tuples' true) s):wpAny (model prog w) A (keyKind' vs.toArray) Q E s:=by
 let⟨fs,h1,h2,h3⟩:=Kr h;refine PySem.W.kat_kind (T:=.type "int") h1 (by omega) (λv hv=>?_) (by decide) q;let⟨i,t,rfl⟩:=h3 v hv;exact PySem.W.Looks.now
def aaI{h:Heap}{a b:Addr}{vs:Qxz}{out:Array Value}{o:Obj}(hb:b≠a)(e:h.get? b=some o):(sortedHeap h a vs out).get? b=some o:=by
 unfold sortedHeap;rw[Heap.get?_update_ne _ _ _ _ hb];exact cG _ (cG _ (by rw[Heap.get?_update_ne _ _ _ _ hb];exact e))
def ack {h:Heap}{a:Addr}{vs:Qxz}{out:Array Value}{n:Nat} (ho:h.get? a=some (seqObj "list" vs.toArray n)):∃c,(sortedHeap h a vs out).get? a=some (seqObj "list" out c) :=
 ⟨_,get?_update_seq (cG _ (cG _ (get?_update_seq ho λ_=>#[]))) λ_=>out⟩
theorem C5 {h h':Heap} (k:∀b o,o.cls=.type "tuple" → h.get? b=some o→h'.get? b=some o):∀{vs:Qxz}{ps:List (Int×Int)},Paired (jz h) vs ps→Paired (jz h') vs ps
 |_,_,.nil=>.nil
 |_,_,.cons x r=>.cons (by let⟨b,o,n,t,u,e0,e,hc,hd⟩:=x;exact⟨b,o,n,t,u,e0,k _ _ hc e,hc,hd⟩) (C5 k r)
theorem nD{h:Heap}:∀{vs:Qxz}{ps:List (Int×Int)}{i:Nat},Paired (jz h) vs ps→i<ps.length→jz h (vs.getD i Value.none) (ps.getD i (0,0))
 |_,_,0,.cons x _,_=>x
 |_,_,i+1,.cons _ r,hi=>nD (i:=i) r (Nat.lt_of_succ_lt_succ hi)
 |_,_,_,.nil,hi=>absurd hi (kl _)
def range_getD:∀(vs:Qxz),(List.range vs.length).map (vs.getD · Value.none)=vs:=λvs=>by
 refine Ar (by simp) λi h1 h2=>?_;simp[h2]
def Ws {a:Addr}{vs:Qxz}{ps:List (Int×Int)}{n:Nat}{P:PySem.Fin→Shared→Prop} (ho:s.heap.get? a=some (seqObj "list" vs.toArray n)) (hP:Paired (jz s.heap) vs ps) (Bc:ps.length<64)
  (h:P (.done (.ret .none)) { s with heap:=sortedHeap s.heap a vs ((fY ps).map (vs.getD · Value.none)).toArray }):wpAny (model prog w) A (Builtin.«list.sort» ⟨[.ref a],[]⟩) P E s:=by
 let hl:=cM hP;let hs:vs.length≤sizeLine:=by rw[p7];omega
 obtain⟨e1,G9⟩:∃e1,(s.heap.update a (Obj.mapSeq λ_=>#[])).get? a=some (seqObj "list" #[] e1):=⟨_,get?_update_seq ho λ_=>#[]⟩;let Be:(((s.heap.update a (Obj.mapSeq λ_=>#[])).push (seqObj "tuple" vs.toArray 0)).push (seqObj "list" #[] 0)).get? a=some (seqObj "list" #[] e1):=cG _ (cG _ G9);let Hc:Paired (jz (((s.heap.update a (Obj.mapSeq λ_=>#[])).push (seqObj "tuple" vs.toArray 0)).push (seqObj "list" #[] 0))) vs ps:=C5 (λb o hc e=>cG _ (cG _ (by
  rw[Heap.get?_update_ne _ _ _ _ (λz=>by rw[z,ho]at e;cases e;exact absurd (show Value.type "list" = Value.type "tuple" from hc) (by decide))];exact e))) hP
 let hz:((fY ps).map (vs.getD · Value.none)).toArray.size≤sizeLine+1:=by
  rw[gE,eU,(CZ ps).1];omega
 rw[list_sort_plain];refine aA<|listItems_at ho rfl<|aA<|listUpdate_at ho rfl ?_ (by simpa using hs) (jE _);refine aA<|seqEpoch_at G9 rfl<|aA<|wpAny_newTuple ?_ (by simpa using hs);refine aA<|wpAny_newList ?_ (jE _);refine kg ?_;show wpAny (model prog w) A _ P E { s with heap:=((s.heap.update a (Obj.mapSeq λ_=>#[])).push (seqObj "tuple" vs.toArray 0)).push (seqObj "list" #[] 0) };dsimp only;by_cases h2:vs.toArray.size<2
 ·rw[if_pos h2,if_pos h2];refine aA<|aO ?_;rw[StateT.run_pure];refine aA<|aO ?_;dsimp only;let e:(arrOf (SortSt.mk' general' (vs.toArray.zip vs.toArray) #[] 7 none)).map (·.2)=((fY ps).map (vs.getD · Value.none)).toArray:=by
   rw[show fY ps=List.range vs.length by unfold fY;rw[if_pos (by simpa[hl]using h2),hl],range_getD];show(vs.toArray.zip vs.toArray).map (·.2)=_;simp[List.map_snd_zip]
  rw[e];refine aA<|seqEpoch_at Be rfl<|aA<|listUpdate_at Be rfl ?_ (jE _) hz;simp only[bne_self_eq_false,Bool.false_eq_true,if_false];exact aO h
 ·rw[if_neg h2,if_neg h2];let oC:2≤vs.length:=by simpa using h2
  refine aA<|Wr Hc (by omega) ?_;refine aA<|gb (PySem.W.kat_run (ks:=vs) (Q:=λfO s'=>s'={ s with heap:=((s.heap.update a (Obj.mapSeq λ_=>#[])).push (seqObj "tuple" vs.toArray 0)).push (seqObj "list" #[] 0) }∧failedOf fO=none∧(arrOf fO).map (·.2)=((fY ps).map (vs.getD · Value.none)).toArray)
   (G:=λp s'=>s'={ s with heap:=((s.heap.update a (Obj.mapSeq λ_=>#[])).push (seqObj "tuple" vs.toArray 0)).push (seqObj "list" #[] 0) }∧p.toList=fY ps) rfl oC (by omega) (λp fO s' _ a2 a3 a4=>⟨a4.1,a3,by rw[PySem.W.kat_snds rfl a2,a4.2]⟩)
   (OD (n:=ps.length) (c:=λi j=>wM (ps.getD i (0,0)) (ps.getD j (0,0))) (λi j C hi hj q=>Ym (nD Hc hi) (nD Hc hj) q) _ (by rw[hl];exact LV (by omega)) ⟨rfl,by unfold fY;rw[if_neg (by omega),hl]⟩)) ?_ λ_ _ e=>e
  rintro⟨⟨⟩,fO⟩ s' ⟨rfl,hf,ad1⟩;dsimp only;rw[ad1];refine aA<|seqEpoch_at Be rfl<|aA<|listUpdate_at Be rfl ?_ (jE _) hz;rw[hf];simp only[bne_self_eq_false,Bool.false_eq_true,if_false];exact aO h
def UC{r:Addr}{vs:Qxz}{ps:List (Int×Int)}{Q:Qzx}
  (hc:∀(E':Qzx) (Q':Qxz→Shared→Prop),(∀h1 tk,(∀b o,s.heap.get? b=some o→h1.get? b=some o)→s.heap.objs.size≤h1.objs.size→Q' vs { s with heap:=h1,toks:=tk })→wpAny (model prog w) A.in1 (PySem.collect (.ref r)) Q' E' s)
  (hP:Paired (jz s.heap) vs ps) (Bc:ps.length<64)
  (h:∀h' tk a c,(∀b o,s.heap.get? b=some o→h'.get? b=some o)→s.heap.objs.size≤a→h'.get? a=some (seqObj "list" ((fY ps).map (vs.getD · Value.none)).toArray c)→Q (.ref a) { s with heap:=h',toks:=tk }) :
  wpAny (model prog w) A (call (.builtin "sorted") [.ref r]) Q E s:=by
 let hl:=cM hP;refine Calls.call_function_entry kind_sorted plain_sorted entry_sorted (args_sorted1 _) ?_;unfold Builtin.«sorted»;refine aA (m:=checkCount "sorted" 1 1 _)<|aO ?_;refine aA<|hc _ _ λh1 tk k1 z1=>?_;refine aA<|wpAny_newList ?_ (by rw[p7];omega);let vY:(h1.push (seqObj "list" vs.toArray 0)).get? h1.objs.size=some (seqObj "list" vs.toArray 0):=gD _ rfl;let kp:∀b o,s.heap.get? b=some o→(h1.push (seqObj "list" vs.toArray 0)).get? b=some o:=λb o e=>cG _ (k1 b o e);refine aA<|kg<|pY slot_list_sort ⟨_,vY,rfl⟩ entry_list_sort ?body (args_list_sort _)
 case body =>
  refine Ws (s:={ s with heap:=h1.push (seqObj "list" vs.toArray 0),toks:=tk }) vY (C5 (λb o _ e=>kp b o e) hP) Bc ⟨_,rfl,aO ⟨_,rfl,?_⟩⟩;let⟨c,hc⟩:=ack (vs:=vs) (out:=((fY ps).map (vs.getD · Value.none)).toArray) vY;refine h _ tk _ c (λb o e=>aaI (λz=>?_) (kp b o e)) ?_ hc
  ·have:=bZ (k1 b o e);rw[z]at this;exact kf _ this
  ·exact z1
def Cl(P:Nat→Value→Prop)(n:Nat)(s:Shared)(r':Result)(s':Shared):Prop:=∃h' tk iY c',r'=.ok (.ret (.ref s.heap.objs.size))∧s'={ s with heap:=h',toks:=tk }∧(∀b o,s.heap.get? b=some o→h'.get? b=some o)∧h'.get? s.heap.objs.size=some (seqObj "list" iY c')∧ItemsOf P iY n
def Uh{T:String}{r d:Addr}{n:Nat}{P:Nat→Value→Prop}{OK:Heap→Prop}(K:PySem.W.KdlSrc prog w T r d n P OK)(hh:A.handled=none)(aH:OK s.heap)(hn:n≤sizeLine){Q:Qxz→Shared→Prop}
  (h:∀h' tk (acc:Array Value),(∀b o,s.heap.get? b=some o→h'.get? b=some o)→s.heap.objs.size≤h'.objs.size→ItemsOf P acc n→Q acc.toList { s with heap:=h',toks:=tk }):wpAny (model prog w) A (PySem.collect (.ref r)) Q E s:=by
 skip
 let hS:(s.heap.push (seqObj "list" #[] 0)).get? s.heap.objs.size=some (seqObj "list" #[] 0):=gD _ rfl;let aX:=K.there _ aH;unfold PySem.collect;refine aA<|wpAny_runValue<|codeAny_builtin entry_proto_collect' ?_;show wpAny _ _ (do again (.builtin "list.__iadd__" ⟨[←newList [],.ref r],[]⟩)) _ _ s;let key:codeAny (model prog w) A (.builtin "list.__iadd__" ⟨[.ref s.heap.objs.size,.ref r],[]⟩) (Cl P n s) { s with heap:=s.heap.push (seqObj "list" #[] 0) }:=by
  refine codeAny_builtin entry_list_iadd' ?_;rw[Around.under_plainId F.plain_list_iadd _];exact PySem.W.kdl_extend (R:=Cl P n s) (A:=A) (s:={ s with heap:=s.heap.push (seqObj "list" #[] 0) }) K hh (K.keep _ _ aH λb _ o e=>cG _ e) s.heap.objs.size (Nat.ne_of_gt aX.1) (Nat.ne_of_gt aX.2) (.ref s.heap.objs.size) 0 hS (λh' tk iY c' hk Bf iX=>⟨h',tk,iY,c',rfl,rfl,λb o e=>hk b o (fH (bZ e)) (cG _ e),Bf,iX⟩) hn
 refine aA<|wpAny_newList<|aO ⟨Code.quiet_builtin _ (by decide +kernel),codeAny_mono key ?_⟩;rintro _ _ ⟨h',tk,iY,c',rfl,rfl,kp,Bf,iX⟩;exact aA<|wpAny_load Bf<|aO<|h h' tk iY kp (Nat.le_of_lt (bZ Bf)) iX
end
section
variable {K:Qzk}{N:Qzj}{H H' H₀:Hp}{I:Nat→Qxx}{O:Qzj}{σ:L2.St}{env:Ev}
def lT(H:Hp)(y:V)(p:Int×Int):Prop:=∃b,y=.ref b∧H b=some (.tup [.int p.1,.int p.2])
abbrev kP(p:Int×Int):List Key:=[.inl p.1,.inl p.2]
def OG(K:Qzk)(xs:List V)(H:Hp)(Q:VK):Prop:=∃p ps,xs=[.ref p]∧ps.length<64∧((∃ys,b0 K H p ys∧Paired (lT H) ys ps)∨∃aj:List (List Key×V),H p=some (.dT aj)∧aj.map (·.1)=ps.map kP) ∧
 ∀ys l,Paired (lT H) ys ps→H l=none→Q (.ref l) (upd H l (.lst ((fY ps).map (ys.getD · .non))))
theorem Nn{X:Cx}{pins:Qxq}{s:Shared}(I:L2.Inv X pins σ H s):∀{ys:List V}{vs:Qxz}{ps:List (Int×Int)},Paired (lT H) ys ps→Vals ys vs→Paired (jz s.heap) vs ps
 |_,_,_,.nil,.nil=>.nil
 |_,_,_,.cons x r,.cons rv rr=>by
  let⟨b,e,hb⟩:=x;subst e;refine .cons ?_ (Nn I r rr);obtain rfl:=(show _=Value.ref b from rv);let⟨_,its,r',o,h1,h2,_,n,h3⟩:=I.aH _ _ hb;cases r' with
  |cons a1 r' =>
   cases r' with
   |cons a2 r' =>
    cases r';let⟨t,rfl⟩:=a1;let⟨u,rfl⟩:=a2;exact⟨b,o,n,t,u,rfl,h1,h2,h3⟩
theorem JL:∀{ys:List V}{vs:Qxz} (i:Nat),Vals ys vs→RelV (ys.getD i .non) (vs.getD i Value.none)
 |_,_,_,.nil=>rfl
 |_,_,0,.cons r _=>r
 |_,_,i+1,.cons _ r=>JL i r
theorem LW{ys:List V}{vs:Qxz}(r:Vals ys vs):∀ix:Qxj,Vals (ix.map (ys.getD · .non)) (ix.map (vs.getD · Value.none))
 |[]=>.nil
 |i::ix=>.cons (JL i r) (LW r ix)
theorem Ks:∀{ps:List (Int×Int)}{bs:List Addr},qV H (ps.map kP) bs→Paired (lT H) (bs.map V.ref) ps
 |[],_,.nil=>.nil
 |_::_,_,.cons h t=>.cons ⟨_,rfl,h⟩ (Ks t)
def UD{X:Cx}(h:X.K=K)(hc:X.calm=true):iP X (.builtin "sorted") (OG K):=by
 subst h;intro pins s σ H xs us Q I r h;let⟨p,ps,rfl,hl,hs,q⟩:=h;let⟨u,rfl,ru⟩:=vals1 r;cases ru;let fin:∀{ys:List V}{vs:Qxz},Vals ys vs→Paired (lT H) ys ps →
   (∀(E':Qzx) (Q':Qxz→Shared→Prop),(∀h1 tk,(∀b o,s.heap.get? b=some o→h1.get? b=some o)→s.heap.objs.size≤h1.objs.size→Q' vs { s with heap:=h1,toks:=tk })→wpAny (model X.prog X.w) X.A.in1 (PySem.collect (.ref p)) Q' E' s) →
   wpAny (model X.prog X.w) X.A (call (.builtin "sorted") [.ref p]) (EP X pins σ Q) X.xe s:=λ{ys vs} rv hp ad2=>by
  refine UC ad2 (Nn I hp rv) hl λh' tk a c k z e=>?_;refine⟨.ref a,_,I.laid (t':=tk) (o:=.lst ((fY ps).map (ys.getD · .non))) k z ⟨?_,_,c,LW rv _,e⟩,rfl,q ys a hp (I.aH.fresh z)⟩;rw[eU,(CZ ps).1,p7];omega
 rcases hs with⟨ys,hq,hp⟩|⟨aj,hd,hk⟩
 ·let⟨its,rv,pl,hz⟩:=I.list hq;refine fin rv hp λE' Q' k=>collect_list pl.isList (k _ s.toks (λb o e=>?_) (by rw[Heap.size_update,size_push'];exact Nat.le_succ _)) (by rw[←rv.length];exact hz);rw[Heap.get?_update_ne _ _ _ _ (fH (bZ e))];exact cG _ e
 ·let⟨hz,wo,ys,rel,o,es,ep,ho,hex,rN,hX,iG⟩:=(show cK X.prog X.w H s.heap p (.dT aj)from I.aH p _ hd);let ka:=Dp rel;rw[hk]at ka;let hlen:es.toList.length=ys.length:=by rw[hX,eU]
  let e2:=cM rel;refine fin (vs:=(ys.map (·.2.1)).map Value.ref) (CD _) (Ks ka) λE' Q' k=>Uh (A:=X.A.in1) (JB (es:=es) (ep:=ep) wo) (I.ok.hd hc) ⟨o,ho,hex,rN⟩ (by rw[n6]at hlen;omega) λh' tk acc kp z iX=>?_;rw[show acc.toList=(ys.map (·.2.1)).map Value.ref from by
   refine List.ext_getElem? λj=>?_;rw[gY,cA];let e3:acc.size=es.size:=iX.1;rw[n6]at hlen;cases ej:ys[j]? with
   |none=>exact Ai.mpr (by rw[n6];have:=Ai.mp ej;omega)
   |some y =>
    let hj:j<acc.size:=by have:=(a9.mp ej).1;omega
    let⟨en,GD,hk⟩:=iX.2 j acc[j] (by simp[hj]);let vv:es[j]?=some (entryOfKey (tupleKind (cN X.prog X.w)) y):=by rw[←n9,hX,cA,ej];rfl
    rw[GD]at vv;cases vv;rw[n9,Qu hj,hk];rfl]
  exact k h' tk kp z
abbrev Ru(p:Int×Int):D:=.tup [.int p.1,.int p.2]
abbrev Rv:D→Option (Qzz)
 |.tup ds=>some ds
 |_=>none
abbrev two:Qxk→Option (Int×Int)
 |[a,b]=>some (a,b)
 |_=>none
abbrev kI:Key→Option Int
 |.inl i=>some i
 |_=>none
abbrev Hd:List Key→Option (Qxk)
 |[]=>some []
 |k::r=>(kI k).bind λi=>(Hd r).bind λl=>some (i::l)
def r6:Qzz→Option (List (Int×Int))
 |[]=>some []
 |d::r=>(Rv d).bind λds=>(lB ds).bind λl=>(two l).bind λp=>(r6 r).bind λt=>some (p::t)
def r9:List (List Key×D)→Option (List (Int×Int))
 |[]=>some []
 |k::r=>(Hd k.1).bind λl=>(two l).bind λp=>(r9 r).bind λt=>some (p::t)
def aaJ{d:D}{ds:Qzz}(h:Rv d=some ds):d=.tup ds:=by
 cases d<;>first|cases h;rfl|cases h
def Np:∀{l:Qxk}{p:Int×Int},two l=some p→l=[p.1,p.2]
 |[_,_],_,h=>by cases h;rfl
 |[],_,h=>by cases h
 |[_],_,h=>by cases h
 |_::_::_::_,_,h=>by cases h
theorem Nq:∀{k:List Key}{l:Qxk},Hd k=some l→k=l.map Key.inl
 |[],_,h=>by cases h;rfl
 |x::r,_,h=>by
  let⟨i,ei,h⟩:=aw h;let⟨l,el,h⟩:=aw h;cases h;rw[Nq el];cases x<;>cases ei;rfl
def kO(ps:List (Int×Int)):Qzq:=if ps.length<64 then some (.un,.lst ((fY ps).map λi=>Ru (ps.getD i (0,0))))else none
def nE:List (M×D)→Qzq
 |[(_,.lst ds)]=>(r6 ds).bind kO
 |[(m,.dt ks)]=>if own m=true∨m=.un then (r9 ks).bind kO else none
 |_=>none
theorem LX:∀{ks:List (List Key×D)}{ps:List (Int×Int)},r9 ks=some ps→ks.map (·.1)=ps.map kP
 |[],_,h=>by cases h;rfl
 |k::r,ps,h=>by
  let⟨l,el,h⟩:=aw h;let⟨p,ep,h⟩:=aw h;let⟨t,et,h⟩:=aw h;cases h;rw[dA,dA,LX et,Nq el,Np ep];rfl
theorem LY:∀{ds:Qzz}{ps:List (Int×Int)}{vs:List V},r6 ds=some ps→aB K N H vs ds→Paired (lT H) vs ps
 |[],_,_,h,.nil=>by cases h;exact .nil
 |d::r,ps,_,h,.cons (v:=v) x xs=>by
  let⟨ds,ed,h⟩:=aw h;let⟨l,el,h⟩:=aw h;let⟨p,ep,h⟩:=aw h;let⟨t,et,h⟩:=aw h;cases h;cases aaJ ed;refine .cons ?_ (LY et xs);cases x with
  |tup hq rp =>
   rw[yj rp el,Np ep]at hq;exact⟨_,rfl,bC.own hq (show 2<4 by decide)⟩
theorem Nr{ps:List (Int×Int)}{ys:List V}{l:Addr}{o:HO}(hn:H l=none)(hp:Paired (lT H) ys ps):∀ix:Qxj,(∀i∈ix,i<ps.length)→aB K N (upd H l o) (ix.map (ys.getD · .non)) (ix.map λi=>Ru (ps.getD i (0,0)))
 |[],_=>.nil
 |i::ix,h=>by
  refine .cons ?_ (Nr hn hp ix λj hj=>h j (c9 _ hj));have:∀{ys:List V}{ps:List (Int×Int)} (i:Nat),Paired (lT H) ys ps→i<ps.length→lT H (ys.getD i .non) (ps.getD i (0,0)):=λ{ys ps} i=>by
   induction i generalizing ys ps with
   |zero=>intro hp hi;cases hp with
    |nil=>exact absurd hi (kl _)
    |cons x _=>exact x
   |succ i ih=>intro hp hi;cases hp with
    |nil=>exact absurd hi (kl _)
    |cons _ r=>exact ih r (Nat.lt_of_succ_lt_succ hi)
  let⟨b,e,hb⟩:=this i hp (h i cg);show Rp K N _ (ys.getD i .non) _;rw[e];exact .tup (.inl (by rw[aI (eZ hb hn)];exact hb)) (.cons (.int _) (.cons (.int _) .nil))
set_option tactic.hygienic true in
def Vj:lR K (OG K) nE:=by
 intro H₀ O H vs ay Q m d od hd hv h q;let fin:∀{ps:List (Int×Int)},kO ps=some (m,d)→ps.length<64∧∀ys l,Paired (lT H) ys ps→H l=none→Q (.ref l) (upd H l (.lst ((fY ps).map (ys.getD · .non)))):=λ{ps} h=>by
  unfold kO at h;split at h
  ·rename_i hl;cases h;exact⟨hl,λys l hp hn=>q _ _ (dn hn) ⟨l,rfl,hn,k5 hd hn,iN od hn,_,bQ,Nr hn hp _ (CZ ps).2⟩⟩
  ·cases h
 unfold nE at h;split at h
 ·let⟨ps,en,h⟩:=aw h;let⟨v,rfl,hw⟩:=hv.one;let⟨p,xs,rfl,hs,r⟩:=hw.lst;exact⟨p,ps,rfl,(fin h).1,.inl ⟨xs,hs,LY en r⟩,(fin h).2⟩
 ·rename_i m0 ks;split at h
  ·rename_i hm;let⟨ps,en,h⟩:=aw h;let⟨v,rfl,hw⟩:=hv.one;have:∃p aj,v=.ref p∧H p=some (.dT aj)∧aj.map (·.1)=ks.map (·.1):=by
    cases m0<;>simp only[own,Bool.false_eq_true,false_or,reduceCtorEq,or_false,or_self]at hm<;>simp only[Val,Cell]at hw
    ·let⟨p,rfl,_,_,_,xs,c,z,_⟩:=hw;exact⟨p,xs,rfl,c,z⟩
    ·let⟨p,rfl,_,_,xs,c,z,_⟩:=hw;exact⟨p,xs,rfl,c,z⟩
    ·let⟨p,rfl,_,xs,c,z,_⟩:=hw;exact⟨p,xs,rfl,c,z⟩
   let⟨p,aj,rfl,e,ek⟩:=this;exact⟨p,ps,rfl,(fin h).1,.inr ⟨aj,e,ek.trans (LX en)⟩,(fin h).2⟩
  ·cases h
 ·cases h
def Pt(K:Qzk):R2:=λx y H Q=>(x=.non∧(∃b xs,y=.ref b∧bC K H b xs)∧Q (.bl false) H)∨zI K x y H Q
def aaK{X:Cx}(h:X.K=K)(hu:X.A.units+64<cLine):bO X (compareOp .Eq) (Pt K):=by
 subst h;intro pins s σ H x y v u Q I rx ry h;rcases h with⟨rfl,⟨b,xs,rfl,hq⟩,q⟩|h
 ·cases (show v=Value.none from rx);cases (show u=Value.ref b from ry);let⟨its,_,pl,_⟩:=I.tuple hq;exact SeqAt.RcAt.none_tuple pl (by omega) X.prog X.w X.xe _ ⟨.bl _,H,I,rfl,q⟩
 ·exact MR hu pins s σ H x y v u Q I rx ry h
def vD:M×D→M×D→Qzq
 | (_,.non),(_,.tup _)=>some (.fr,.bl false)
 |a,b=>gB a b
def aaL:JR K (Pt K) vD:=by
 intro H₀ O H x y a b Q m d od hd h1 h2 h q;unfold vD at h;split at h
 ·cases h;let⟨p,xs,rfl,hs,_⟩:=h2.tup;exact .inl ⟨h1.non,⟨p,xs,rfl,hs⟩,q _ H (aG.refl H) fE⟩
 ·exact .inr (M8 H₀ O H x y a b Q m d od hd h1 h2 h q)
abbrev qv(ns:Qxk):Nat:=(firstMet (λi=>ns.getD i 0) ns.length).length
def Rx(K:Qzk)(te:TA):TE:=λσ H Q=>te σ H λxs H1=>∃a ns,xs=[.ref a]∧b0 K H1 a (ns.map V.int)∧ns.length+1<scanBound∧Q (.int (qv ns)) H1
def acm {X:Cx}{a:Expr}{ta:TA}{p pos p' pos':Pos} (hK:X.K=K) (hc:X.calm=true) (sZ:Gl X "len") (kM:X.mg "len" = none) (hg:Gl X "set") (hm:X.mg "set" = none) (ha:PA X [a] ta) (hs:starEach [a] X.env=[(false,eval a X.env)]:=by rfl):PE X (.Call (.Name "len" p') [.Call (.Name "set" p) [a] [] pos] [] pos') (Rx K ta):=by
 subst hK;intro pins s σ H Q I h;refine Call_ (lg I sZ kM PyProof.Rows.Boot.«len» (PyProof.Rows.callWith_builtin1 ?_ rfl rfl));show wpAny _ _ (spliced ((false,eval (.Call (.Name "set" p) [a] [] pos) X.env)::backTo pos' (starEach [] X.env))) _ _ s;refine vH ?_;refine Call_ (lg I hg hm PyProof.Rows.Boot.«set» (p6 (aK (ha pos pins s σ H _ I h) λus s1 ⟨vs,H1,I1,r1,q1⟩=>?_) hs rfl));let⟨l,ns,rfl,hq,hb,q⟩:=q1;let⟨u,rfl,ru⟩:=vals1 r1;cases ru;let⟨its,rv,pl,hz⟩:=I1.list hq;let li:its.length=ns.length:=by rw[←rv.length];simp
 refine PySem.call_set_list (ns:=ns) (I1.ok.hd hc) pl.isList (by simpa using ints_of rv) (by simpa[li]using hb) λh' tk hS hk=>args_nil ?_;let⟨o,es,ep,t,ho,hex,hd,_,_,_,hf,rest⟩:=hS;let hle:=firstMet_length_le (λi=>ns.getD i 0) its.toArray.size;rw[show its.toArray.size=ns.length by simpa using li]at rest hle;let e1:es.size=qv ns:=rest;refine call_len_set ho hex hd hf ?_ ?_
 ·have:ns.length+1<4096:=hb;let h63:(2:Int)^63=9223372036854775808:=by decide
  rw[e1,h63];unfold qv;omega
 ·exact⟨.int (qv ns),H1,I1.kept (t':=tk+1+1) λb o e=>hk b o (bZ e) e,⟨_,by rw[e1]⟩,q⟩
def Bg(fs:Qqz):Qqj:=λe=>(fs e).bind λl=>match l with
 |[(_,.lst ds)]=>(lB ds).bind λns=>if ns.length<4000 then some (.fr,.int (qv ns))else none
 |_=>none
def acn{ta:TA}{fs:Qqz}(h:iI K ta fs):JT K (Rx K ta) (Bg fs):=by
 intro H₀ O H σ env Q m d R e q;let⟨ay,em,e⟩:=aw e;split at e
 ·let⟨ns,en,e⟩:=aw e;split at e
  ·rename_i hl;cases e;refine h H₀ O H σ env _ _ R em λvs H1 s1 hv=>?_;let⟨v,rfl,hw⟩:=hv.one;let⟨p,xs,rfl,hs,r⟩:=hw.lst;rw[yj r en]at hs;exact⟨p,ns,rfl,hs,by unfold scanBound;omega,q _ _ s1 (Rp.int _)⟩
  ·cases e
 ·cases e
end
end J
set_option genInjectivity false
set_option genSizeOf false
namespace C
open PySem PySem.Spec L2 J
inductive Bo where|add|sub|mul|div|mod|pow|shl|shr|band|bor
inductive Co where|lt|le|gt|eq|ne|i6|qw|oF|wN|qx|qy|Bi|Bj
inductive Uo where|neg|inv
inductive Fb where|int|list|len|oG|max|zm|sum|vi
abbrev Bo.op:Bo→Operator
 |.add=>.Add
 |.sub=>.Sub
 |.mul=>.Mult
 |.div=>.FloorDiv
 |.mod=>.Mod
 |.pow=>.Pow
 |.shl=>.LShift
 |.shr=>.RShift
 |.band=>.BitAnd
 |.bor=>.BitOr
def Bo.g:Bo→M×D→M×D→Qzq
 |.add=>bW
 |.sub=>jv
 |.mul=>fZ
 |.div=>cL
 |.mod=>bh
 |.pow=>j4
 |.shl=>pI
 |.shr=>mM
 |.band=>gX
 |.bor=>pN
def Bo.ok{K:Qzk}:∀o:Bo,∃r,(∀Z:Cx,Z.K=K→bO Z (binaryOp o.op) r)∧JR K r o.g
 |.add=>⟨_,λ_ h=>XS h,XT⟩
 |.sub=>⟨_,λ_ _=>Zg,ZR⟩
 |.mul=>⟨_,λ_ _=>Zh,ZS⟩
 |.div=>⟨_,λ_ _=>V2,XF⟩
 |.mod=>⟨_,λ_ _=>Zi,ZT⟩
 |.pow=>⟨_,λ_ _=>Zj,ZU⟩
 |.shl=>⟨_,λ_ _=>Zk,ZV⟩
 |.shr=>⟨_,λ_ _=>Zm,ZW⟩
 |.band=>⟨_,λ_ _=>Zn,XE⟩
 |.bor=>⟨_,λ_ _=>abK,aak⟩
def Co.op:Co→CmpOp
 |.lt=>.Lt
 |.le=>.LtE
 |.gt=>.Gt
 |.eq=>.Eq
 |.ne=>.NotEq
 |.i6=>.Is
 |.qw=>.IsNot
 |.oF=>.In
 |.wN=>.NotIn
 |.qx=>.Eq
 |.qy=>.NotEq
 |.Bi=>.NotIn
 |.Bj=>.Eq
def Co.g:Co→M×D→M×D→Qzq
 |.lt=>gF
 |.le=>ql
 |.gt=>i5
 |.eq=>aP
 |.ne=>jI
 |.i6=>zJ
 |.qw=>lu
 |.oF=>ft false
 |.wN=>ft true
 |.qx=>gB
 |.qy=>iA
 |.Bi=>pR true
 |.Bj=>vD
def Co.ok{K:Qzk}:∀o:Co,∃r,(∀Z:Cx,Z.K=K→Z.A.units+64<cLine→bO Z (compareOp o.op) r)∧JR K r o.g
 |.lt=>⟨_,λ_ _ _=>abN,abX⟩
 |.le=>⟨_,λ_ _ _=>abO,abY⟩
 |.gt=>⟨_,λ_ _ _=>abP,abZ⟩
 |.eq=>⟨_,λ_ _ _=>abL,ab0⟩
 |.ne=>⟨_,λ_ _ _=>abM,ab1⟩
 |.i6=>⟨_,λ_ _ _=>Zr,ZX⟩
 |.qw=>⟨_,λ_ _ _=>Xa,Xo⟩
 |.oF=>⟨_,λ_ h _=>Ux h,Om⟩
 |.wN=>⟨_,λ_ h _=>TR h,Om⟩
 |.qx=>⟨_,λ_ h u=>aav h u,M8⟩
 |.qy=>⟨_,λ_ h u=>aaw h u,aau⟩
 |.Bi=>⟨_,λ_ h u=>UA h u,aax⟩
 |.Bj=>⟨_,λ_ h u=>aaK h u,aaL⟩
abbrev Uo.op:Uo→UnaryOp
 |.neg=>.USub
 |.inv=>.Invert
def Uo.g:Uo→M×D→Qzq
 |.neg=>fq
 |.inv=>nV
def Uo.ok{K:Qzk}:∀o:Uo,∃r,(∀Z:Cx,v5 Z (unaryOp o.op) r)∧JU K r o.g
 |.neg=>⟨_,λ_=>Zo,aai⟩
 |.inv=>⟨_,λ_=>Zq,aaj⟩
abbrev Fb.nm:Fb→String
 |.int => "int"
 |.list => "list"
 |.len => "len"
 |.oG => "isinstance"
 |.max => "max"
 |.zm => "list"
 |.sum => "sum"
 |.vi => "sorted"
def Fb.g:Fb→List (M×D)→Qzq
 |.int=>nU
 |.list=>ve
 |.len=>bJ
 |.oG=>jw
 |.max=>vw
 |.zm=>uV
 |.sum=>vC
 |.vi=>nE
inductive Gv where|s (x:Str)|t (l:Qjz)
abbrev Gv.d:Gv→D
 |.s x=>.str x
 |.t l=>.tup (l.map .str)
mutual
inductive X where|v (i:Nat)|ki (i:Int)|ks (s:Str)|kb (b:Bool)|kn|ty (n:String)|bo (o:Bo) (a b:X)|co (o:Co) (a b:X)|uo (o:Uo) (a:X)|an (a b:X)|or (a b:X)|nt (a:X)|ie (t:T) (a b:X)|tu (l:A)|li (l:A)|dK|d1 (a b:X)|ix (a b:X)|dg (a b:X)|sl (a:X) (lo hi:P)|dT|tg (a b:X)|wL (d k x:X)|lr (l:A)|fb (f:Fb) (l:A)|ca (f:Nat) (l:A)|cp (i:I) (ix:Qxj) (t:T) (e:X)|ls (l:A)
inductive Pp where|n|c (a b:X) (l:Pp)
inductive A where|n|c (a:X) (l:A)
inductive T where|b (x:X)|c (o:Co) (a b:X)|d (n:Bool) (a b:X)|t (n:Bool) (a b:X)|h (o p:Co) (a b c:X)|an (a b:T)|or (a b:T)|nt (a:T)|y
inductive P where|n|s (x:X)
inductive I where|r1 (l:A)|r2 (l:A)|en (l:A)|s (x:X)|t (x:X)|l (x:X)
end
mutual
inductive G where|n (i:Nat)|t (k:Nat) (l:Gs)|l (k:Nat) (l:Gs)
inductive Gs where|n|c (g:G) (l:Gs)
end
inductive L where|rt (x:X)|st (i:Nat) (x:X)|sc (j:Nat) (i:I) (ix:Qxj) (q:T) (e:X)|as (g:G) (x:X)|si (k:Nat) (i x:X)|dp (k:Nat) (i x:X)|ap (k:Nat) (x:X)|na (k:Nat) (i x:X)|po (i k:Nat)|rv (k:Nat)|ne (i:Nat) (it:I)|tp (k:Nat) (i x:X)|rO (f:Nat) (sl:Qxj) (l:A)|rT (l:A)|iS (i f:Nat) (sl:Qxj) (l:A)
inductive Ch where|a (k x:X)|d (k y x:X)
mutual
inductive S where|l (x:L)|ie (t:T) (a b:B)|fo (i:I) (g:G) (b:B)|fk (k:Nat) (g:G) (b:B)|wh (t:T) (b:B)|fz (k:Nat) (s:S)
inductive B where|n|o (s:S)|c (s:S) (b:B)|u (i:Nat) (x:X) (q:T) (r:X) (cs:List Ch) (b:B)
end
inductive FT where
 |p (F:Qqk)|io (l:Qxj) (F:Qzz→Option (M×D×Qzz))|oo (F:Qzz→Option D)
abbrev FT.f:Option FT→Qqk
 |some (.p F)=>F
 |_=>λ_=>none
abbrev FT.l:Option FT→Qxj
 |some (.io l _)=>l
 |_=>[]
abbrev FT.o:Option FT→Qzz→Option (M×D×Qzz)
 |some (.io _ F)=>F
 |_=>λ_=>none
abbrev FT.q:Option FT→Qzz→Option D
 |some (.oo F)=>F
 |_=>λ_=>none
mutual
abbrev eX(t:List FT):X→Qqj
 |.v i=>jV i
 |.ki i=>jC (.int i)
 |.ks s=>jC (.str s)
 |.kb b=>jC (.bl b)
 |.kn=>jC .non
 |.ty n=>jC (.ty n)
 |.bo o a b=>ae o.g (eX t a) (eX t b)
 |.co o a b=>ae o.g (eX t a) (eX t b)
 |.uo o a=>cj o.g (eX t a)
 |.an a b=>gM (eX t a) (eX t b)
 |.or a b=>lQ (eX t a) (eX t b)
 |.nt a=>j5 (eX t a)
 |.ie c a b=>rR (eT t c) (eX t a) (eX t b)
 |.tu l=>aY (eA t l)
 |.li l=>bL (eA t l)
 |.dK=>uT
 |.d1 a b=>zi (eX t a) (eX t b)
 |.ix a b=>ae au (eX t a) (eX t b)
 |.dg a b=>pA (eX t a) (eX t b)
 |.sl a lo hi=>gR iL (eX t a) (eP t lo) (eP t hi)
 |.dT=>vf
 |.tg a b=>jn (eX t a) (eX t b)
 |.wL d k x=>uU (eX t d) (eX t k) (eX t x)
 |.lr l=>tf (eA t l)
 |.fb f l=>aL f.g (eA t l)
 |.ca f l=>aC (FT.f t[f]?) (eA t l)
 |.cp i ix c e=>cW (eI t i) ix (eT t c) (eX t e)
 |.ls l=>Bg (eA t l)
abbrev Ry(t:List FT):Pp→List (Fj×Fj)
 |.n=>[]
 |.c a b l=>(eX t a,eX t b)::Ry t l
abbrev eA(t:List FT):A→Qqz
 |.n=>ai
 |.c a l=>ag (eX t a) (eA t l)
abbrev eT(t:List FT):T→Qqx
 |.b x=>jB (eX t x)
 |.c o a b=>jB (ae o.g (eX t a) (eX t b))
 |.d n a b=>jB (f6 n (eX t a) (eX t b))
 |.t n a b=>jB (Fg n (eX t a) (eX t b))
 |.h o p a b c=>jB (nB o.g p.g (eX t a) (eX t b) (eX t c))
 |.an a b=>cP (eT t a) (eT t b)
 |.or a b=>cI (eT t a) (eT t b)
 |.nt a=>eO (eT t a)
 |.y=>fu
abbrev eP(t:List FT):P→Ev→Option (Option Int)
 |.n=>iz
 |.s x=>gx (eX t x)
abbrev eI(t:List FT):I→Ev→Option (M×Qzz)
 |.r1 l=>cq (eA t l)
 |.r2 l=>vy (eA t l)
 |.en l=>gj (eA t l)
 |.s x=>GY (eX t x)
 |.t x=>Q5 (eX t x)
 |.l x=>bK (eX t x)
end
mutual
abbrev eG:G→M×D→Ev→Option Ev
 |.n i=>gN i
 |.t k l=>gT k (Bl l)
 |.l k l=>gL k (Bl l)
abbrev Bl:Gs→M→Qzz→Ev→Option Ev
 |.n=>dX
 |.c g l=>bR (eG g) (Bl l)
end
def pU:A→List (Nat×Nat)
 |.n=>[]
 |.c (.v i) l=>(0,i)::AZ (pU l)
 |.c _ l=>AZ (pU l)
def eL(t:List FT):L→Qqq
 |.rt x=>aF (eX t x)
 |.st i x=>ax i (eX t x)
 |.sc j i ix q e=>ax j (eX t (.cp i ix q e))
 |.as g x=>pM (eG g) (eX t x)
 |.si k i x=>fD k (eX t i) (eX t x)
 |.dp k i x=>lA k (eX t i) (eX t x)
 |.ap k x=>cE k (eX t x)
 |.na k i x=>zk k (eX t i) (eX t x)
 |.po i k=>vx i k
 |.rv k=>rV k
 |.ne i it=>zj i (eI t it)
 |.tp k i x=>nL k (eX t i) (eX t x)
 |.rT l=>Ow (eA t l)
 |.rO f sl l=>mC sl (pU l) (FT.q t[f]?) (eA t l)
 |.iS i f sl l=>yL i (FT.l t[f]?) sl (pU l) (FT.o t[f]?) (eA t l)
def He(t:List FT):Ch→Ev→Nat→Qzz→Bool
 |.a k x=>Fh (eX t k) (eX t x)
 |.d k y x=>Fm (eX t k) (eX t y) (eX t x)
mutual
abbrev eS(t:List FT):S→Qqq
 |.l x=>eL t x
 |.ie c a b=>aM (eT t c) (eB t a) (eB t b)
 |.fo i g b=>aU (eI t i) (eG g) (eB t b)
 |.fk k g b=>zl Rr k (eG g) (eB t b)
 |.wh c b=>ip (eT t c) (eB t b)
 |.fz k s=>bT k (eS t s)
abbrev eB(t:List FT):B→Qqq
 |.n=>aR
 |.o s=>eS t s
 |.c s b=>aq (eS t s) (eB t b)
 |.u i x q r cs b=>Rq i (eX t x) (eT t q) (eX t r) (cs.map (He t)) (eB t b)
end
end C
set_option genInjectivity true
set_option genSizeOf true
namespace C
open PySem PySem.Spec L2 J
abbrev fF:Expr→Bool
 |.Starred ..=>false
 |_=>true
abbrev nh:Expr→Bool
 |.Slice ..=>false
 |_=>true
abbrev wO:Expr→Bool
 |.Name ..=>true
 |.Call ..=>true
 |.Subscript ..=>true
 |_=>false
abbrev wQ:Expr→Bool
 |.Name ..=>true
 |.Constant ..=>true
 |.Subscript ..=>true
 |.Call _ (_::_) _ _=>true
 |_=>false
abbrev kc:Expr→Bool
 |.Set ..=>false
 |_=>true
abbrev lC:Expr→Bool
 |.ListComp ..=>false
 |.SetComp ..=>false
 |.DictComp ..=>false
 |_=>true
abbrev Eo:Expr→Bool
 |.Tuple ..=>true
 |_=>false
def cV{e:Expr}(h:fF e=true){es:Qjq}{env:Env}:starEach (e::es) env=(false,eval e env)::starEach es env:=by
 cases e<;>first|rfl|cases h
def rE{i:Expr}(h:nh i=true):K8 i:=by
 intro o v;cases i<;>first|rfl|cases h
def LZ{i:Expr}(h:nh i=true):EK i:=by
 intro o v;cases i<;>first|rfl|cases h
def aaM{i o:Expr}{pos:Pos}{env:Env}(h:nh i=true)(v:Value):assign (Expr.Subscript o i pos) env v=(do
  let ov ←holding [v] (eval o env)
  let iv ←holding [v,ov] (eval i env)
  standAt pos
  holding [v,ov,iv] (setItem ov iv v)
  PySem.release [v,ov,iv] []):=by
 cases i<;>first|rfl|cases h
def aaN{a:Expr}{env:Env}(h:wO a=true)(whole:Sem Value):PySem.isTrue a env whole=(do
  let v ←whole
  standAt (Expr.pos a)
  holding [v] (truthy v)):=by
 cases a<;>first|rfl|cases h
set_option tactic.hygienic true in
def DZ{o:Expr}{m:Str}{env:Env}{w:Sem Value}(h:wQ o=true):attributeBase o m env w=w:=by
 cases o<;>first|rfl | (cases h;done)|skip
 rename_i f l kw p;cases l with
 |nil=>cases h
 |cons a l=>cases f<;>rfl
def qP{op:CmpOp}{e:Expr}(h:kc e=true):behindInMarks op e=false:=by
 cases e<;>first|rfl|cases h
def ny{e:Expr}{env:Env}(h:kc e=true)(x:Value):foldedSetIterable e env x=pure x:=by
 cases e<;>first|rfl|cases h
abbrev Hf(sc:Scope)(x:Str):Bool:=match sc.names.lookup x with
 |some .local=>true
 |some .cell=>true
 |some .free=>true
 |_=>false
def Nt{sc:Scope}{x:Str}(h:Hf sc x=true):Av sc x:=by
 unfold Hf at h;unfold Av;split at h<;>first|exact absurd h bx|simp_all
abbrev gl(sc:Scope)(x:Str):Bool:=match sc.names.lookup x with
 |some .globalImplicit=>true
 |_=>false
def aco{sc:Scope}{x:Str}(h:gl sc x=true):sc.names.lookup x=some .globalImplicit:=by
 unfold gl at h;split at h<;>first|exact absurd h bx|assumption
abbrev rl(sc aD:Scope):Scope :=
  { kind:=aD.kind,names:=aD.names.map (λ(n,k)=>if (k==NameKind.free&&sc.kind==ScopeKind.function&&sc.names.lookup n==some NameKind.cell)=true then (n,NameKind.cell)else (n,k)),
    isGenerator:=aD.isGenerator,isCoroutine:=aD.isCoroutine,more:=aD.more }
abbrev Hg(N N':Qjz)(sc aD:Scope)(x:Str)(ix:Qxj):Bool :=
 decide (aD.kind=.function∧(∀y∈aD.names,y.2≠.cell)∧(∀y∈aD.names,y.2=.local→aD.names.lookup y.1=some .local)∧aD.names.lookup x=some .local ∧
  (∀y∈aD.names,y.2=.free→sc.names.lookup y.1=some .cell)∧N'.Nodup∧N'[0]?=some x∧N'.length=ix.length+1 ∧
  (∀p∈ix.zip N'.tail,N[p.1]?=some p.2∧sc.names.lookup p.2=some .cell∧aD.names.lookup p.2=some .free))
def D0{N N':Qjz}{sc aD:Scope}{x:Str}{ix:Qxj}(h:Hg N N' sc aD x ix=true):mz N N' sc aD x ix:=by
 let⟨h1,h2,h3,h4,h5,h6,h7,h8,h9⟩:=bt h;exact⟨h1,h2,h3,h4,h5,h6,h7,h8,h9⟩
structure Fi where
 nm:Str
 ar:Nat
 lv:Nat
 io:Option (Qxj):=none
 df:Option Int:=none
abbrev Gv.is:Gv→Gv→Bool
 |.s x,.s y=>decide (x=y)
 |.t x,.t y=>decide (x=y)
 |_,_=>false
structure Cf where
 bs:List String
 gs:List (Str×Gv)
 fs:List Fi
abbrev ns(N:Qjz)(x:Str)(ix:Qxj):Qjz:=x::ix.map λi=>(N[i]?).getD ""
abbrev tys:List String:=["bool", "int", "str", "tuple", "list", "dict"]
abbrev nin(n:Bool):CmpOp:=if n then .NotIn else .In
abbrev on{α:Type}(o:Option α)(f:α→Bool):Bool:=match o with
 |some a=>f a
 |none=>false
def aE{α:Type}{o:Option α}{f:α→Bool}(h:on o f=true):∃a,o=some a∧f a=true:=by
 cases o with
 |none=>cases h
 |some a=>exact⟨a,rfl,h⟩
abbrev tD:Expr→Option Str
 |.Name x _=>some x
 |_=>none
abbrev eK:Expr→Option Const
 |.Constant c _ _=>some c
 |_=>none
abbrev Rz:Const→Option Int
 |.int i=>some i
 |_=>none
abbrev RA:Const→Option Str
 |.str i=>some i
 |_=>none
abbrev RB:Const→Option Bool
 |.bool i=>some i
 |_=>none
abbrev RC:Const→Bool
 |.none=>true
 |_=>false
abbrev RD:Expr→Option (Expr×Operator×Expr)
 |.BinOp l op r _=>some (l,op,r)
 |_=>none
abbrev Bm:Expr→Option (UnaryOp×Expr)
 |.UnaryOp op e _=>some (op,e)
 |_=>none
abbrev Hh:Expr→Option (Expr×List CmpOp×Qjq)
 |.Compare l ops rs _=>some (l,ops,rs)
 |_=>none
abbrev l1{α:Type}:List α→Option α
 |[a]=>some a
 |_=>none
abbrev l2{α:Type}:List α→Option (α×α)
 |[a,b]=>some (a,b)
 |_=>none
abbrev lU{α:Type}:List α→Option (α×List α)
 |a::l=>some (a,l)
 |_=>none
def wR(e:Expr):Option (Expr×CmpOp×Expr):=(Hh e).bind λq=>(l1 q.2.1).bind λop=>(l1 q.2.2).map λr=>(q.1,op,r)
def RH(e:Expr):Option (Expr×CmpOp×CmpOp×Expr×Expr):=(Hh e).bind λq=>(l2 q.2.1).bind λop=>(l2 q.2.2).map λr=>(q.1,op.1,op.2,r.1,r.2)
abbrev RJ:Expr→Option (BoolOp×Qjq×Pos)
 |.BoolOp op vs pos=>some (op,vs,pos)
 |_=>none
def vE(o:BoolOp)(e:Expr):Option (Expr×Expr):=(RJ e).bind λq=>if q.1=o then (lU q.2.1).bind λa=>(lU a.2).map λb=>(a.1,match b.2 with
 |[]=>b.1
 |_=>.BoolOp o (b.1::b.2) q.2.2)else none
abbrev RK:Expr→Option (Expr×Expr×Expr)
 |.IfExp e l r _=>some (e,l,r)
 |_=>none
abbrev wU:Expr→Option (Qjq)
 |.Tuple es _ _=>some es
 |_=>none
abbrev RL:Expr→Option (Qjq)
 |.List es _=>some es
 |_=>none
abbrev Bn:Expr→Option (List (Option Expr)×Qjq)
 |.Dict ks vs _=>some (ks,vs)
 |_=>none
abbrev kQ:Expr→Option (Expr×Expr)
 |.Subscript l r _=>some (l,r)
 |_=>none
abbrev RM:Expr→Option (Option Expr×Option Expr)
 |.Slice lo hi none _=>some (lo,hi)
 |_=>none
abbrev Hi:Expr→Option (Expr×Qjq×List Keyword×Pos)
 |.Call f as kw cp=>some (f,as,kw,cp)
 |_=>none
abbrev RN:Expr→Option (Expr×Str×Pos)
 |.Attribute o m ap=>some (o,m,ap)
 |_=>none
def eM(nm:String)(e:Expr):Option (Expr×Qjq):=(Hi e).bind λq=>(RN q.1).bind λa=>if a.2.1=Str.ofString nm∧q.2.2.1.isEmpty=true∧wQ a.1=true∧(a.2.2.endLine==q.2.2.2.line)=true∧q.2.1.all fF=true then some (a.1,q.2.1)else none
def eN(e:Expr):Option (Str×Qjq):=(Hi e).bind λq=>(tD q.1).bind λx=>if q.2.2.1.isEmpty=true∧q.2.1.all fF=true then some (x,q.2.1)else none
abbrev zP:Expr→Option (Expr×Str×Pos×Expr×Qjq×Scope×Pos)
 |.ListComp el [⟨.Name z pz,it,ifs,0⟩] aD ep=>some (el,z,pz,it,ifs,aD,ep)
 |_=>none
def jP{α β:Type}{o:Option α}{f:α→Option β}{b:β}(h:o.bind f=some b):∃a,o=some a∧f a=some b:=by
 cases o with
 |none=>cases h
 |some a=>exact⟨a,rfl,h⟩
def yN{α β:Type}{o:Option α}{f:α→β}{b:β}(h:o.map f=some b):∃a,o=some a∧f a=b:=by
 cases o with
 |none=>cases h
 |some a=>exact⟨a,rfl,by simpa using h⟩
def qY{e:Expr}{x:Str}(h:tD e=some x):∃p,e=.Name x p:=by
 cases e<;>cases h;exact⟨_,rfl⟩
def zo{e:Expr}{k:Const}(h:eK e=some k):∃j p,e=.Constant k j p:=by
 cases e<;>cases h;exact⟨_,_,rfl⟩
def acp{k:Const}{i:Int}(h:Rz k=some i):k=.int i:=by
 cases k<;>cases h;rfl
def acq{k:Const}{i:Str}(h:RA k=some i):k=.str i:=by
 cases k<;>cases h;rfl
def acr{k:Const}{i:Bool}(h:RB k=some i):k=.bool i:=by
 cases k<;>cases h;rfl
def acs{k:Const}(h:RC k=true):k=.none:=by
 cases k<;>first|rfl|exact absurd h bx
def aaO{e l r:Expr}{op:Operator}(h:RD e=some (l,op,r)):∃p,e=.BinOp l op r p:=by
 cases e<;>cases h;exact⟨_,rfl⟩
def D1{e a:Expr}{op:UnaryOp}(h:Bm e=some (op,a)):∃p,e=.UnaryOp op a p:=by
 cases e<;>cases h;exact⟨_,rfl⟩
def iU{α:Type}{l:List α}{a:α}(h:l1 l=some a):l=[a]:=by
 cases l with
 |nil=>cases h
 |cons b l=>cases l<;>cases h;rfl
def Ep{α:Type}{l:List α}{a:α×α}(h:l2 l=some a):l=[a.1,a.2]:=by
 cases l with
 |nil=>cases h
 |cons b l =>
  cases l with
  |nil=>cases h
  |cons d l=>cases l<;>cases h;rfl
def jQ{α:Type}{l:List α}{a:α×List α}(h:lU l=some a):l=a.1::a.2:=by
 cases l<;>cases h;rfl
def Nu{e:Expr}{q:Expr×List CmpOp×Qjq}(h:Hh e=some q):∃p,e=.Compare q.1 q.2.1 q.2.2 p:=by
 cases e<;>cases h;exact⟨_,rfl⟩
def yO{e l r:Expr}{op:CmpOp}(h:wR e=some (l,op,r)):∃p,e=.Compare l [op] [r] p:=by
 let⟨q,h1,h⟩:=jP h;let⟨a,h2,h⟩:=jP h;let⟨b,h3,h⟩:=yN h;cases h;let⟨p,rfl⟩:=Nu h1;exact⟨p,by rw[iU h2,iU h3]⟩
def aaP{e l m r:Expr}{op op':CmpOp}(h:RH e=some (l,op,op',m,r)):∃p,e=.Compare l [op,op'] [m,r] p:=by
 let⟨q,h1,h⟩:=jP h;let⟨a,h2,h⟩:=jP h;let⟨b,h3,h⟩:=yN h;cases h;let⟨p,rfl⟩:=Nu h1;exact⟨p,by rw[Ep h2,Ep h3]⟩
def aaQ{e:Expr}{q:BoolOp×Qjq×Pos}(h:RJ e=some q):e=.BoolOp q.1 q.2.1 q.2.2:=by
 cases e<;>cases h;rfl
def yz{o:BoolOp}{e a b:Expr}(h:vE o e=some (a,b)):∃m rest pos,e=.BoolOp o (a::m::rest) pos∧((rest=[]∧b=m)∨b=.BoolOp o (m::rest) pos):=by
 let⟨q,h1,g⟩:=jP h;let e0:=aaQ h1;by_cases e:q.1=o
 ·rw[if_pos e]at g;let⟨x,h2,g⟩:=jP g;let⟨y,h3,g⟩:=yN g;let e2:q.2.1=x.1::y.1::y.2:=by rw[jQ h2,jQ h3]
  let ea:x.1=a:=de Prod.fst g;let eb:=de Prod.snd g;refine⟨y.1,y.2,q.2.2,by rw[e0,e2,e,ea],?_⟩;cases hy:y.2 with
  |nil=>rw[hy]at eb;exact .inl ⟨rfl,eb.symm⟩
  |cons z zs=>rw[hy]at eb;exact .inr eb.symm
 ·rw[if_neg e]at g;cases g
def aaR{e a b d:Expr}(h:RK e=some (a,b,d)):∃p,e=.IfExp a b d p:=by
 cases e<;>cases h;exact⟨_,rfl⟩
def yP{e:Expr}{es:Qjq}(h:wU e=some es):∃k p,e=.Tuple es k p:=by
 cases e<;>cases h;exact⟨_,_,rfl⟩
def aaS{e:Expr}{es:Qjq}(h:RL e=some es):∃p,e=.List es p:=by
 cases e<;>cases h;exact⟨_,rfl⟩
def D2{e:Expr}{q:List (Option Expr)×Qjq}(h:Bn e=some q):∃p,e=.Dict q.1 q.2 p:=by
 cases e<;>cases h;exact⟨_,rfl⟩
def jR{e l r:Expr}(h:kQ e=some (l,r)):∃p,e=.Subscript l r p:=by
 cases e<;>cases h;exact⟨_,rfl⟩
def aaT{e:Expr}{lo hi:Option Expr}(h:RM e=some (lo,hi)):∃p,e=.Slice lo hi none p:=by
 cases e with
 |Slice a b st p=>cases st<;>cases h;exact⟨_,rfl⟩
 |_=>cases h
def Nv{e:Expr}{q:Expr×Qjq×List Keyword×Pos}(h:Hi e=some q):e=.Call q.1 q.2.1 q.2.2.1 q.2.2.2:=by
 cases e<;>cases h;rfl
def aaU{e:Expr}{q:Expr×Str×Pos}(h:RN e=some q):e=.Attribute q.1 q.2.1 q.2.2:=by
 cases e<;>cases h;rfl
def rF{nm:String}{e o:Expr}{as:Qjq}(h:eM nm e=some (o,as)):∃ap cp,e=.Call (.Attribute o (Str.ofString nm) ap) as [] cp∧wQ o=true∧(ap.endLine==cp.line)=true∧as.all fF=true:=by
 let⟨q,h1,h⟩:=jP h;let⟨a,h2,h⟩:=jP h;split at h
 ·rename_i g;cases h;refine⟨a.2.2,q.2.2.2,?_,g.2.2.1,g.2.2.2.1,g.2.2.2.2⟩;rw[Nv h1,aaU h2,g.1,fN.mp g.2.1]
 ·cases h
def jU{e:Expr}{x:Str}{as:Qjq}(h:eN e=some (x,as)):∃p cp,e=.Call (.Name x p) as [] cp∧as.all fF=true:=by
 let⟨q,h1,h⟩:=jP h;let⟨y,h2,h⟩:=jP h;split at h
 ·rename_i g;cases h;let⟨p,e2⟩:=qY h2;exact⟨p,q.2.2.2,by rw[Nv h1,e2,fN.mp g.1],g.2⟩
 ·cases h
def Dz{e el it:Expr}{z:Str}{pz ep:Pos}{ifs:Qjq}{aD:Scope}(h:zP e=some (el,z,pz,it,ifs,aD,ep)):e=.ListComp el [⟨.Name z pz,it,ifs,0⟩] aD ep:=by
 unfold zP at h;split at h
 ·cases h;rfl
 ·cases h
abbrev Hj:T→Bool
 |.y=>true
 |_=>false
mutual
abbrev kX(c:Cf)(lv:Nat):X→Scope→Qjz→Expr→Bool
 |.v i,sc,N,e=>on (tD e) λx=>decide (N[i]?=some x)&&Hf sc x&&!(x == "__debug__")&&!(x == "__classdict__")
 |.ki i,_,_,e=>on (eK e) λk=>on (Rz k) λj=>decide (i=j)
 |.ks i,_,_,e=>on (eK e) λk=>on (RA k) λj=>decide (i=j)
 |.kb i,_,_,e=>on (eK e) λk=>on (RB k) λj=>decide (i=j)
 |.kn,_,_,e=>on (eK e) RC
 |.ty n,sc,_,e=>on (tD e) λx=>decide (x=Str.ofString n)&&gl sc x&&c.bs.contains n&&tys.contains n
 |.bo o a b,sc,N,e=>on (RD e) λq=>decide (q.2.1=o.op)&&kX c lv a sc N q.1&&kX c lv b sc N q.2.2
 |.co o a b,sc,N,e=>on (wR e) λq=>decide (q.2.1=o.op)&&kc q.2.2&&kX c lv a sc N q.1&&kX c lv b sc N q.2.2
 |.uo o a,sc,N,e=>on (Bm e) λq=>decide (q.1=o.op)&&kX c lv a sc N q.2
 |.an a b,sc,N,e=>on (vE .And e) λq=>kX c lv a sc N q.1&&kX c lv b sc N q.2
 |.or a b,sc,N,e=>on (vE .Or e) λq=>kX c lv a sc N q.1&&kX c lv b sc N q.2
 |.nt a,sc,N,e=>on (Bm e) λq=>decide (q.1=.Not)&&kX c lv a sc N q.2
 |.ie t a b,sc,N,e=>on (RK e) λq=>kT c lv t sc N q.1&&kX c lv a sc N q.2.1&&kX c lv b sc N q.2.2
 |.tu l,sc,N,e=>on (wU e) λes=>kA c lv l sc N es
 |.li l,sc,N,e=>on (RL e) λes=>kA c lv l sc N es
 |.dK,_,_,e=>on (Bn e) λq=>q.1.isEmpty&&q.2.isEmpty
 |.d1 a b,sc,N,e=>on (Bn e) λq=>on (l1 q.1) λk=>on k λk=>on (l1 q.2) λv=>kX c lv a sc N k&&kX c lv b sc N v
 |.ix a b,sc,N,e=>on (kQ e) λq=>nh q.2&&kX c lv a sc N q.1&&kX c lv b sc N q.2
 |.dg a b,sc,N,e=>on (kQ e) λq=>nh q.2&&kX c lv a sc N q.1&&kX c lv b sc N q.2
 |.sl a lo hi,sc,N,e=>on (kQ e) λq=>on (RM q.2) λs=>kX c lv a sc N q.1&&kP c lv lo sc N s.1&&kP c lv hi sc N s.2
 |.dT,_,_,e=>on (Bn e) λq=>q.1.isEmpty&&q.2.isEmpty
 |.tg a b,sc,N,e=>on (kQ e) λq=>nh q.2&&kX c lv a sc N q.1&&kX c lv b sc N q.2
 |.wL d k x,sc,N,e=>on (eM "get" e) λq=>on (l2 q.2) λa=>kX c lv d sc N q.1&&kX c lv k sc N a.1&&kX c lv x sc N a.2
 |.lr l,sc,N,e=>on (eN e) λq=>on (l1 q.2) λr=>on (eN r) λu=>decide (q.1 = "list")&&gl sc q.1&&c.bs.contains "list" && decide (u.1 = "range")&&gl sc u.1&&(c.bs.contains "range" && decide (u.2.length=1)&&kA c lv l sc N u.2)
 |.ls l,sc,N,e=>on (eN e) λq=>on (l1 q.2) λr=>on (eN r) λu=>decide (q.1 = "len")&&gl sc q.1&&c.bs.contains "len" && decide (u.1 = "set")&&gl sc u.1&&(c.bs.contains "set" && decide (u.2.length=1)&&kA c lv l sc N u.2)
 |.fb f l,sc,N,e=>on (eN e) λq=>decide (q.1=Str.ofString f.nm)&&gl sc q.1&&c.bs.contains f.nm&&!q.2.isEmpty&&kA c lv l sc N q.2
 |.ca f l,sc,N,e=>on (eN e) λq=>on c.fs[f]? λi=>decide (q.1=i.nm)&&gl sc q.1&&!(q.1 == "__debug__")&&decide (i.lv≤lv)&&decide (q.2.length=i.ar)&&decide (i.io=none)&&!q.2.isEmpty&&kA c lv l sc N q.2
 |.cp i ix t e,sc,N,x=>on (zP x) λq=>Hg N (ns N q.2.1 ix) sc q.2.2.2.2.2.1 q.2.1 ix&&kc q.2.2.2.1&&kI c lv i false sc N q.2.2.2.1&&((q.2.2.2.2.1.isEmpty&&Hj t)||on (l1 q.2.2.2.2.1) λy=>kT c lv t (rl sc q.2.2.2.2.2.1) (ns N q.2.1 ix) y)&&kX c lv e (rl sc q.2.2.2.2.2.1) (ns N q.2.1 ix) q.1
abbrev RP(c:Cf)(lv:Nat):Pp→Scope→Qjz→List (Option Expr)→Qjq→Bool
 |.n,_,_,ks,vs=>ks.isEmpty&&vs.isEmpty
 |.c a b l,sc,N,ks,vs=>on (lU ks) λk=>on k.1 λk1=>on (lU vs) λv=>kX c lv a sc N k1&&kX c lv b sc N v.1&&RP c lv l sc N k.2 v.2
abbrev kA(c:Cf)(lv:Nat):A→Scope→Qjz→Qjq→Bool
 |.n,_,_,es=>es.isEmpty
 |.c a l,sc,N,es=>on (lU es) λq=>fF q.1&&kX c lv a sc N q.1&&kA c lv l sc N q.2
abbrev kT(c:Cf)(lv:Nat):T→Scope→Qjz→Expr→Bool
 |.b x,sc,N,e=>wO e&&kX c lv x sc N e
 |.c o a b,sc,N,e=>on (wR e) λq=>decide (q.2.1=o.op)&&kc q.2.2&&kX c lv a sc N q.1&&kX c lv b sc N q.2.2
 |.d n a b,sc,N,e=>on (wR e) λq=>decide (q.2.1=nin n)&&kc q.2.2&&kX c lv a sc N q.1&&kX c lv b sc N q.2.2
 |.t n a b,sc,N,e=>on (wR e) λq=>decide (q.2.1=nin n)&&kc q.2.2&&kX c lv a sc N q.1&&kX c lv b sc N q.2.2
 |.h o p a b d,sc,N,e=>on (RH e) λq=>decide (q.2.1=o.op)&&decide (q.2.2.1=p.op)&&!lastMarks [q.2.1,q.2.2.1] [q.2.2.2.1,q.2.2.2.2]&&kX c lv a sc N q.1&&kX c lv b sc N q.2.2.2.1&&kX c lv d sc N q.2.2.2.2
 |.an a b,sc,N,e=>on (vE .And e) λq=>kT c lv a sc N q.1&&kT c lv b sc N q.2
 |.or a b,sc,N,e=>on (vE .Or e) λq=>kT c lv a sc N q.1&&kT c lv b sc N q.2
 |.nt a,sc,N,e=>on (Bm e) λq=>decide (q.1=.Not)&&kT c lv a sc N q.2
 |.y,_,_,_=>false
abbrev kP(c:Cf)(lv:Nat):P→Scope→Qjz→Option Expr→Bool
 |.n,_,_,o=>o.isNone
 |.s x,sc,N,o=>on o λe=>kX c lv x sc N e
abbrev kI(c:Cf)(lv:Nat):I→Bool→Scope→Qjz→Expr→Bool
 |.r1 l,_,sc,N,e=>on (eN e) λq=>decide (q.1 = "range")&&gl sc q.1&&c.bs.contains "range" && decide (q.2.length=1)&&kA c lv l sc N q.2
 |.r2 l,_,sc,N,e=>on (eN e) λq=>decide (q.1 = "range")&&gl sc q.1&&c.bs.contains "range" && decide (q.2.length=2)&&kA c lv l sc N q.2
 |.en l,tg,sc,N,e=>on (eN e) λq=>tg&&decide (q.1 = "enumerate")&&gl sc q.1&&c.bs.contains "enumerate" && decide (q.2.length=1)&&kA c lv l sc N q.2
 |.s x,_,sc,N,e=>kX c lv x sc N e
 |.t x,_,sc,N,e=>kX c lv x sc N e
 |.l x,_,sc,N,e=>kX c lv x sc N e
end
def Hk(P:Program)(w:World)(K:Qzk)(mg:Str→Option Value)(base:Heap)(i:Fi)(sp:Sp):Prop :=
 ∃f fd ps,mK P w K mg base m7 i.lv f fd ps sp∧mg i.nm=some (.ref f)∧PySem.W.keepIn K (.ref f)=true∧Binds K fd ps []∧∀n,i.df=some n→∃t,Binds K fd ps [.int n t]
def lV(P:Program)(w:World)(K:Qzk)(mg:Str→Option Value)(base:Heap)(i:Fi):FT→Prop
 |.p F=>i.io=none∧Hk P w K mg base i (qm K i.ar F)
 |.oo F=>i.io=some []∧Hk P w K mg base i (zO K i.ar F)
 |.io l F=>(i.io=some l∧l≠[])∧Hk P w K mg base i (vA K i.ar l F)
def GV(K:Qzk)(mg:Str→Option Value)(va:List V)(gs:List (Str×Gv)):Prop:=∀(i:Nat) g,gs[i]?=some g→∃x u,va[i]?=some x∧mg g.1=some u∧RelV x u∧JT K (tC x) (jC g.2.d)
structure CE (c:Cf)(lv:Nat)(K:Qzk)(t:List FT)(va:List V)(sc:Scope)(N:Qjz)(Z:Cx):Prop where
 k:Z.K=K
 sc:Z.env.scope=sc
 n:Z.N=N
 calm:Z.calm=true
 rm:fh lv Z.A
 bl:∀b,b∈c.bs→Z.mg (Str.ofString b)=none
 gv:GV K Z.mg va c.gs
 fs:∀(i:Nat) fi,c.fs[i]?=some fi→∃F,t[i]?=some F∧lV Z.prog Z.w Z.K Z.mg Z.base fi F
section
variable {c:Cf}{lv:Nat}{K:Qzk}{t:List FT}{va:List V}{sc:Scope}{N:Qjz}{Z:Cx}
theorem CE.cH(E:CE c lv K t va sc N Z){N':Qjz}{aD:Scope}{C:Addr}{s₂:Shared}{H₂:Hp}{fp:List Addr}{pn:Qxq}:CE c lv K t va (rl sc aD) N' (Z.cH N' aD C s₂ H₂ fp pn) :=
 ⟨E.k,by rw[←E.sc];rfl,rfl,E.calm,E.rm,E.bl,E.gv,E.fs⟩
theorem CE.gl(E:CE c lv K t va sc N Z){x:Str}(h:gl sc x=true):Gl Z x:=by
 have:=aco h;rw[←E.sc]at this;exact this
theorem CE.mg(E:CE c lv K t va sc N Z){b:String}(h:c.bs.contains b=true):Z.mg (Str.ofString b)=none:=E.bl b (by simpa using h)
theorem jf:∀{es:Qjq}{env:Env},es.all fF=true→∀pos:Pos,((backTo pos (starEach es env)).any λx=>x.1)=false
 |[],_,_,_=>rfl
 |e::es,env,h,pos=>by
  rw[p9,lI]at h;rw[cV h.1];show(false||(backTo pos (starEach es env)).any λx=>x.1)=false;rw[jf h.2,FY]
def aaV{n:String}(h:tys.contains n=true):bootBuiltins (Str.ofString n)=some (.type n)∧Str.ofString n ≠ "__name__" ∧ (Str.ofString n==("__debug__" : Str))=false:=by
 let h:n∈tys:=by simpa using h
 simp only[tys,List.mem_cons,List.not_mem_nil,or_false]at h;rcases h with rfl|rfl|rfl|rfl|rfl|rfl
 ·exact⟨PyProof.Rows.Boot.«bool»,by decide,by decide⟩
 ·exact⟨PyProof.Rows.Boot.«int»,by decide,by decide⟩
 ·exact⟨PyProof.Rows.Boot.«str»,by decide,by decide⟩
 ·exact⟨PyProof.Rows.Boot.«tuple»,by decide,by decide⟩
 ·exact⟨PyProof.Rows.Boot.«list»,by decide,by decide⟩
 ·exact⟨PyProof.Rows.Boot.«dict»,by decide,by decide⟩
def Fb.ok:∀f:Fb,∃r,(∀{sc:Scope}{N:Qjz} (Z:Cx),CE c lv K t va sc N Z→∀{p pos:Pos}{e:Expr}{es:Qjq}{ta:TA},C.gl sc (Str.ofString f.nm)=true→c.bs.contains f.nm=true→fF e=true→es.all fF=true→PA Z (e::es) ta→PE Z (.Call (.Name (Str.ofString f.nm) p) (e::es) [] pos) (AF r ta))∧lR K r f.g
 |.int=>⟨_,λ_ E _ _ _ _ _ hg hb h1 h2 ha=>@CV _ _ _ _ _ _ _ _ _ UR (E.gl hg) (E.mg hb) PyProof.Rows.Boot.«int» ha (by decide) (by decide) (cV h1) (jf h2 _),Xt⟩
 |.list=>⟨_,λ_ E _ _ _ _ _ hg hb h1 h2 ha=>@CV _ _ _ _ _ _ _ _ _ (TV E.k) (E.gl hg) (E.mg hb) PyProof.Rows.Boot.«list» ha (by decide) (by decide) (cV h1) (jf h2 _),VQ⟩
 |.len=>⟨_,λ_ E _ _ _ _ _ hg hb h1 h2 ha=>@uq _ _ _ _ _ _ _ _ _ (U2 E.k) (E.gl hg) (E.mg hb) PyProof.Rows.Boot.«len» ha (by decide) (by decide) (cV h1) (jf h2 _),Xs⟩
 |.oG=>⟨_,λ_ E _ _ _ _ _ hg hb h1 h2 ha=>@uq _ _ _ _ _ _ _ _ _ (U8 E.k) (E.gl hg) (E.mg hb) PyProof.Rows.Boot.«isinstance» ha (by decide) (by decide) (cV h1) (jf h2 _),XU⟩
 |.max=>⟨_,λ_ E _ _ _ _ _ hg hb h1 h2 ha=>@uq _ _ _ _ _ _ _ _ _ (UQ E.calm) (E.gl hg) (E.mg hb) PyProof.Rows.Boot.«max» ha (by decide) (by decide) (cV h1) (jf h2 _),Xu⟩
 |.zm=>⟨_,λ_ E _ _ _ _ _ hg hb h1 h2 ha=>@CV _ _ _ _ _ _ _ _ _ (UB E.k E.calm) (E.gl hg) (E.mg hb) PyProof.Rows.Boot.«list» ha (by decide) (by decide) (cV h1) (jf h2 _),Vd⟩
 |.sum=>⟨_,λ_ E _ _ _ _ _ hg hb h1 h2 ha=>@uq _ _ _ _ _ _ _ _ _ (Ve E.k E.calm) (E.gl hg) (E.mg hb) PyProof.Rows.Boot.«sum» ha (by decide) (by decide) (cV h1) (jf h2 _),Yg⟩
 |.vi=>⟨_,λ_ E _ _ _ _ _ hg hb h1 h2 ha=>@uq _ _ _ _ _ _ _ _ _ (UD E.k E.calm) (E.gl hg) (E.mg hb) PyProof.Rows.Boot.«sorted» ha (by decide) (by decide) (cV h1) (jf h2 _),Vj⟩
def aaW{a:Expr}{env:Env}{dF:Pos}(h:fF a=true):(((List.all (backTo dF (starEach [a] env)) λx=>!x.1)&&List.all (backToKw dF (keywordEach [] env)) λx=>Option.isSome x.1)&&decide ((List.length [a]+List.length ([]:List Keyword)+if List.isEmpty ([]:List Keyword)=true then 0 else 1)<30))=true:=by
 rw[cV h];rfl
def aaX{env:Env}{cp:Pos}:((backTo cp (starEach [] env)).any λx=>x.1)=false:=rfl
theorem zQ:∀{l:A}{sc:Scope}{N:Qjz}{es:Qjq},kA c lv l sc N es=true→∀(e:Ev) (ay:List (M×D)),eA t l e=some ay→ay.length=es.length
 |.n,_,_,es,h=>by cases fN.mp h;exact XH
 |.c a l,sc,N,es,h=>by
  let hh:=aE h;clear h;let⟨⟨e,r⟩,q,h⟩:=hh;cases jQ q;let h:(fF e&&kX c lv a sc N e&&kA c lv l sc N r)=true:=h;rw[lI]at h;exact V7 (zQ h.2)
end
section
variable {c:Cf}{lv:Nat}{K:Qzk}{t:List FT}{va:List V}
def dG{a b:Bool}(h:(a&&b)=true):a=true∧b=true:=by simpa using h
def gn{a b d:Bool}(h:(a&&b&&d)=true):a=true∧b=true∧d=true:=by simpa[and_assoc]using h
def gp{a b d e:Bool}(h:(a&&b&&d&&e)=true):a=true∧b=true∧d=true∧e=true:=by simpa[and_assoc]using h
def qz{a b d e f:Bool}(h:(a&&b&&d&&e&&f)=true):a=true∧b=true∧d=true∧e=true∧f=true:=by simpa[and_assoc]using h
def tE{a b d e f g:Bool}(h:(a&&b&&d&&e&&f&&g)=true):a=true∧b=true∧d=true∧e=true∧f=true∧g=true:=by simpa[and_assoc]using h
def Hl{a b d e f g i j:Bool}(h:(a&&b&&d&&e&&f&&g&&i&&j)=true):a=true∧b=true∧d=true∧e=true∧f=true∧g=true∧i=true∧j=true:=by simpa[and_assoc]using h
def nb{a:Bool}(h:(!a)=true):a=false:=by simpa using h
def OI{Z:Cx}{op:BoolOp}{vs:Qjq}{pos:Pos}{tt:TT}(h:PT Z (.BoolOp op vs pos) tt):PW Z (.BoolOp op vs pos) tt:=λ_=>h
def all1{a:Expr}{l:Qjq}(h:(a::l).all fF=true):fF a=true∧l.all fF=true:=by
 rw[p9,lI]at h;exact h
def yA{α:Type}{l:List α}(h:(!l.isEmpty)=true):∃a r,l=a::r:=by
 cases l with
 |nil=>cases h
 |cons a r=>exact⟨a,r,rfl⟩
def zR{α:Type}{l:List α}(h:l.length=1):∃a,l=[a]:=List.length_eq_one_iff.mp h
def ad3{α:Type}{l:List α}(h:l.length=2):∃a b,l=[a,b]:=by
 match l,h with
 |[a,b],_=>exact⟨a,b,rfl⟩
mutual
theorem sX:∀(x:X) {sc:Scope}{N:Qjz}{e:Expr},kX c lv x sc N e=true→∃te,(∀Z,CE c lv K t va sc N Z→PE Z e te)∧JT K te (eX t x)
 |.v i,sc,N,e,h=>by
  let hh:=aE h;clear h;let⟨x,q,h⟩:=hh;let⟨p,rfl⟩:=qY q;let⟨h1,h2,h3,h4⟩:=gp h;let h1:=bt h1;let h2:=Nt h2;exact⟨_,λZ E=>@Mw _ _ _ _ (E.n▸h1) (E.sc▸h2) (nb h3) (nb h4),ZP⟩
 |.ki i,sc,N,e,h=>by
  let hh:=aE h;clear h;let⟨k,q,h⟩:=hh;let⟨j,p,rfl⟩:=zo q;let hh:=aE h;clear h;let⟨y,q,h⟩:=hh;cases acp q;cases bt h;exact⟨_,λZ E=>Y0,rP rfl⟩
 |.ks i,sc,N,e,h=>by
  let hh:=aE h;clear h;let⟨k,q,h⟩:=hh;let⟨j,p,rfl⟩:=zo q;let hh:=aE h;clear h;let⟨y,q,h⟩:=hh;cases acq q;cases bt h;exact⟨_,λZ E=>Y2,rP rfl⟩
 |.kb i,sc,N,e,h=>by
  let hh:=aE h;clear h;let⟨k,q,h⟩:=hh;let⟨j,p,rfl⟩:=zo q;let hh:=aE h;clear h;let⟨y,q,h⟩:=hh;cases acr q;cases bt h;exact⟨_,λZ E=>abE,rP rfl⟩
 |.kn,sc,N,e,h=>by
  let hh:=aE h;clear h;let⟨k,q,h⟩:=hh;let⟨j,p,rfl⟩:=zo q;cases acs h;exact⟨_,λZ E=>Y1,rP rfl⟩
 |.ty n,sc,N,e,h=>by
  let hh:=aE h;clear h;let⟨x,q,h⟩:=hh;let⟨p,rfl⟩:=qY q;let⟨h1,h2,h3,h4⟩:=gp h;cases bt h1;let⟨q1,q2,q3⟩:=aaV h4;exact⟨_,λZ E=>@W3 _ _ (.ty n) _ _ (E.gl h2) (E.mg h3) q1 rfl q2 q3,rP rfl⟩
 |.bo o a b,sc,N,e,h=>by
  let hh:=aE h;clear h;let⟨⟨l,op,r⟩,q,h⟩:=hh;let⟨p,rfl⟩:=aaO q;let⟨h1,h2,h3⟩:=gn h;cases bt h1;let⟨ta,pa,ja⟩:=sX a h2;let⟨tb,pb,jb⟩:=sX b h3;let⟨r,o1,o2⟩:=o.ok (K:=K);exact⟨_,λZ E=>abI (o1 Z E.k) (pa Z E) (pb Z E),y9 o2 ja jb⟩
 |.co o a b,sc,N,e,h=>by
  let hh:=aE h;clear h;let⟨⟨l,op,r⟩,q,h⟩:=hh;let⟨p,rfl⟩:=yO q;let⟨h1,h0,h2,h3⟩:=gp h;cases bt h1;let⟨ta,pa,ja⟩:=sX a h2;let⟨tb,pb,jb⟩:=sX b h3;let⟨r,o1,o2⟩:=o.ok (K:=K);exact⟨_,λZ E=>Xb (o1 Z E.k E.rm.units) (pa Z E) (pb Z E) (qP h0),y9 o2 ja jb⟩
 |.uo o a,sc,N,e,h=>by
  let hh:=aE h;clear h;let⟨⟨op,r⟩,q,h⟩:=hh;let⟨p,rfl⟩:=D1 q;let⟨h1,h2⟩:=dG h;cases bt h1;let⟨ta,pa,ja⟩:=sX a h2;let⟨r,o1,o2⟩:=o.ok (K:=K);exact⟨_,λZ E=>abJ (o1 Z) (pa Z E),abW o2 ja⟩
 |.an a b,sc,N,e,h=>by
  let hh:=aE h;clear h;let⟨⟨x,y⟩,q,h⟩:=hh;let⟨m,rest,pos,rfl,w⟩:=yz q;let⟨h1,h2⟩:=dG h;let⟨ta,pa,ja⟩:=sX a h1;let⟨tb,pb,jb⟩:=sX b h2;refine⟨_,λZ E=>@Y6 _ _ _ _ tb _ _ (pa Z E) ?_,ZY ja jb⟩;rcases w with⟨rfl,rfl⟩|rfl
  ·exact @Mx _ _ _ _ _ (pb Z E)
  ·exact pb Z E
 |.or a b,sc,N,e,h=>by
  let hh:=aE h;clear h;let⟨⟨x,y⟩,q,h⟩:=hh;let⟨m,rest,pos,rfl,w⟩:=yz q;let⟨h1,h2⟩:=dG h;let⟨ta,pa,ja⟩:=sX a h1;let⟨tb,pb,jb⟩:=sX b h2;refine⟨_,λZ E=>@abG _ _ _ _ tb _ _ (pa Z E) ?_,ab3 ja jb⟩;rcases w with⟨rfl,rfl⟩|rfl
  ·exact @Mx _ _ _ _ _ (pb Z E)
  ·exact pb Z E
 |.nt a,sc,N,e,h=>by
  let hh:=aE h;clear h;let⟨⟨op,r⟩,q,h⟩:=hh;let⟨p,rfl⟩:=D1 q;let⟨h1,h2⟩:=dG h;cases bt h1;let⟨ta,pa,ja⟩:=sX a h2;exact⟨_,λZ E=>Y7 (pa Z E),ZZ ja⟩
 |.ie t' a b,sc,N,e,h=>by
  let hh:=aE h;clear h;let⟨⟨x,l,r⟩,q,h⟩:=hh;let⟨p,rfl⟩:=aaR q;let⟨h1,h2,h3⟩:=gn h;let⟨tq,pq,jq⟩:=sT t' h1;let⟨ta,pa,ja⟩:=sX a h2;let⟨tb,pb,jb⟩:=sX b h3;exact⟨_,λZ E=>Vv (pq Z E) (pa Z E) (pb Z E),Z1 jq ja jb⟩
 |.tu l,sc,N,e,h=>by
  let hh:=aE h;clear h;let⟨es,q,h⟩:=hh;let⟨k,p,rfl⟩:=yP q;let⟨ta,pa,ja⟩:=sA l h;exact⟨_,λZ E=>MB (pa Z E),Z3 ja⟩
 |.li l,sc,N,e,h=>by
  let hh:=aE h;clear h;let⟨es,q,h⟩:=hh;let⟨p,rfl⟩:=aaS q;let⟨ta,pa,ja⟩:=sA l h;exact⟨_,λZ E=>DU (pa Z E),Z2 ja⟩
 |.dK,sc,N,e,h=>by
  let hh:=aE h;clear h;let⟨⟨ks,vs⟩,q,h⟩:=hh;let⟨p,rfl⟩:=D2 q;let⟨h1,h2⟩:=dG h;cases fN.mp h1;cases fN.mp h2;exact⟨_,λ_ _=>VG,Wh⟩
 |.d1 a b,sc,N,e,h=>by
  let hh:=aE h;clear h;let⟨⟨ks,vs⟩,q,h⟩:=hh;let⟨p,rfl⟩:=D2 q;let hh:=aE h;clear h;let⟨k,q1,h⟩:=hh;cases iU q1;let hh:=aE h;clear h;let⟨k',rfl,h⟩:=hh;let hh:=aE h;clear h;let⟨v,q2,h⟩:=hh;cases iU q2;let⟨h1,h2⟩:=dG h;let⟨ta,pa,ja⟩:=sX a h1;let⟨tb,pb,jb⟩:=sX b h2;exact⟨_,λZ E=>Xm (Ke (pa Z E) (pb Z E) La) rfl rfl (List.cons_ne_nil _ _) (by show 1≤15;decide),X6 ja jb⟩
 |.ix a b,sc,N,e,h=>by
  let hh:=aE h;clear h;let⟨⟨l,r⟩,q,h⟩:=hh;let⟨p,rfl⟩:=jR q;let⟨h1,h2,h3⟩:=gn h;let⟨ta,pa,ja⟩:=sX a h2;let⟨tb,pb,jb⟩:=sX b h3;exact⟨_,λZ E=>y8 (yt E.k) (pa Z E) (pb Z E) (rE h1),y9 ab2 ja jb⟩
 |.dg a b,sc,N,e,h=>by
  let hh:=aE h;clear h;let⟨⟨l,r⟩,q,h⟩:=hh;let⟨p,rfl⟩:=jR q;let⟨h1,h2,h3⟩:=gn h;let⟨ta,pa,ja⟩:=sX a h2;let⟨tb,pb,jb⟩:=sX b h3;exact⟨_,λZ E=>K9 (lq E.rm) (pa Z E) (pb Z E) (LZ h1),X4 ja jb⟩
 |.sl a lo hi,sc,N,e,h=>by
  let hh:=aE h;clear h;let⟨⟨l,r⟩,q,h⟩:=hh;let⟨p,rfl⟩:=jR q;let hh:=aE h;clear h;let⟨⟨lo',wV⟩,q,h⟩:=hh;let⟨p',rfl⟩:=aaT q;let⟨h1,h2,h3⟩:=gn h;let⟨ta,pa,ja⟩:=sX a h1;let⟨tl,pl,jl⟩:=sP lo h2;let⟨tu,pu,ju⟩:=sP hi h3;exact⟨_,λZ E=>VD (adN E.k) (pa Z E) (pl Z E) (pu Z E),ab5 ab7 ja jl ju⟩
 |.dT,sc,N,e,h=>by
  let hh:=aE h;clear h;let⟨⟨ks,vs⟩,q,h⟩:=hh;let⟨p,rfl⟩:=D2 q;let⟨h1,h2⟩:=dG h;cases fN.mp h1;cases fN.mp h2;exact⟨_,λ_ _=>VH,Yd⟩
 |.tg a b,sc,N,e,h=>by
  let hh:=aE h;clear h;let⟨⟨l,r⟩,q,h⟩:=hh;let⟨p,rfl⟩:=jR q;let⟨h1,h2,h3⟩:=gn h;let⟨ta,pa,ja⟩:=sX a h2;let⟨tb,pb,jb⟩:=sX b h3;exact⟨_,λZ E=>K9 (lq E.rm) (pa Z E) (pb Z E) (LZ h1),Ye ja jb⟩
 |.wL d k x,sc,N,e,h=>by
  let hh:=aE h;clear h;let⟨⟨o,as⟩,q,h⟩:=hh;let⟨ap,cp,rfl,h2,h3,h4⟩:=rF q;let hh:=aE h;clear h;let⟨a,q1,h⟩:=hh;cases Ep q1;let⟨h4,nr⟩:=all1 h4;let nr:=(all1 nr).1;let⟨h5,h6,h7⟩:=gn h;let⟨td,pd,jd⟩:=sX d h5;let⟨tk,pk,jk⟩:=sX k h6;let⟨tx,px,jx⟩:=sX x h7;exact⟨_,λZ E=>Wm (lq E.rm) (pd Z E) (pk Z E) (px Z E) ⟨DZ h2,by rw[cV h4,cV nr];rfl,h3,by rw[cV h4,cV nr];rfl⟩,Wn jd jk jx⟩
 |.lr l,sc,N,e,h=>by
  let hh:=aE h;clear h;let⟨⟨x,as⟩,q,h⟩:=hh;let⟨p,cp,rfl,h4⟩:=jU q;let hh:=aE h;clear h;let⟨r,q1,h⟩:=hh;cases iU q1;let hh:=aE h;clear h;let⟨⟨y,bs⟩,q,h⟩:=hh;let⟨p',cp',rfl,h5⟩:=jU q;let⟨g1,g2,g3,g4,g5,g6⟩:=tE h;let⟨g7,g8,g9⟩:=gn g6;cases bt g1;cases bt g4;let⟨a,rfl⟩:=zR (bt g8);let⟨ta,pa,ja⟩:=sA l g9;exact⟨_,λZ E=>@ace _ _ _ _ _ _ _ E.calm (E.gl g2) (E.mg g3) (E.gl g5) (E.mg g7) (pa Z E) (cV (all1 h5).1),acf ja⟩
 |.ls l,sc,N,e,h=>by
  let hh:=aE h;clear h;let⟨⟨x,as⟩,q,h⟩:=hh;let⟨p,cp,rfl,h4⟩:=jU q;let hh:=aE h;clear h;let⟨r,q1,h⟩:=hh;cases iU q1;let hh:=aE h;clear h;let⟨⟨y,bs⟩,q,h⟩:=hh;let⟨p',cp',rfl,h5⟩:=jU q;let⟨g1,g2,g3,g4,g5,g6⟩:=tE h;let⟨g7,g8,g9⟩:=gn g6;cases bt g1;cases bt g4;let⟨a,rfl⟩:=zR (bt g8);let⟨ta,pa,ja⟩:=sA l g9;exact⟨_,λZ E=>@acm _ _ _ _ _ _ _ _ E.k E.calm (E.gl g2) (E.mg g3) (E.gl g5) (E.mg g7) (pa Z E) (cV (all1 h5).1),acn ja⟩
 |.fb f l,sc,N,e,h=>by
  let hh:=aE h;clear h;let⟨⟨x,as⟩,q,h⟩:=hh;let⟨p,cp,rfl,h4⟩:=jU q;let⟨h1,h2,h3,h0,h6⟩:=qz h;cases bt h1;let⟨a,r,rfl⟩:=yA h0;let⟨h4,h5⟩:=all1 h4;let⟨ta,pa,ja⟩:=sA l h6;let⟨r,q1,q2⟩:=Fb.ok (c:=c) (lv:=lv) (t:=t) (va:=va) (K:=K) f;exact⟨_,λZ E=>q1 Z E h2 h3 h4 h5 (pa Z E),ab4 q2 ja⟩
 |.ca f l,sc,N,e,h=>by
  let hh:=aE h;clear h;let⟨⟨x,as⟩,q,h⟩:=hh;let⟨p,cp,rfl,wW⟩:=jU q;let hh:=aE h;clear h;let⟨i,hf,h⟩:=hh;let⟨h1,h2,h3,h4,h5,lW,h0,h8⟩:=Hl h;let⟨a,r,rfl⟩:=yA h0;let⟨h6,h7⟩:=all1 wW;let h1:=bt h1;let⟨ta,pa,ja⟩:=sA l h8;let hl:=zQ (t:=t) h8;rw[show(a::r).length=i.ar from bt h5]at hl;refine⟨nG (qm K i.ar (FT.f t[f]?)) [] E0 ta,λZ E=>?_,XD ja hl⟩;let⟨F,hF,q⟩:=E.fs f i hf;cases F with
  |io l F=>rw[lV,bt lW]at q;cases q.1.1
  |oo F=>rw[lV,bt lW]at q;cases q.1
  |p F =>
   let⟨_,a,fd,ps,k1,k2,k3,k4⟩:=q;rw[←h1]at k2;rw[hF,←E.k];exact @Dj _ _ _ _ _ _ _ _ _ _ _ _ _ _ _ _ k1 (E.rm.mono (bt h4)) (E.gl h2) k2 k3 k4.1 .nil Ef (pa Z E) (nb h3) (cV h6) (jf h7 _)
 |.cp i ix t' d,sc,N,e,h=>by
  let hh:=aE h;clear h;let⟨⟨el,x,px,it,ifs,aD,ep⟩,q,h⟩:=hh;cases Dz q;let⟨h1,h2,h3,h4,h5⟩:=qz h;let h1:=D0 h1;let⟨ti,pi,ji⟩:=sI i h3;let⟨te,pe,je⟩:=sX d h5;let h4:(ifs.isEmpty=true∧Hj t'=true)∨(on (l1 ifs) λy=>kT c lv t' (rl sc aD) (ns N x ix) y)=true:=by simpa using h4
  rcases h4 with⟨w1,w2⟩|h4
  ·cases fN.mp w1;cases t'<;>first|exact absurd w2 bx|skip
   exact⟨_,λZ E=>@yr _ (ns N x ix) _ _ ix _ _ _ _ _ _ _ _ (by rw[E.n,E.sc];exact h1) E.calm (pi Z (.Name x px) E (λz=>absurd z bx)) (λC s₂ H₂ fp pn=>yq) (λC s₂ H₂ fp pn=>pe _ E.cH) (ny h2),yv ji Ln je⟩
  ·let hh:=aE h4;clear h4;let⟨y,q,h4⟩:=hh;cases iU q;let⟨tq,pq,jq⟩:=sT t' h4;exact⟨_,λZ E=>@yr _ (ns N x ix) _ _ ix _ _ _ _ _ _ _ _ (by rw[E.n,E.sc];exact h1) E.calm (pi Z (.Name x px) E (λz=>absurd z bx)) (λC s₂ H₂ fp pn=>Lc (pq _ E.cH)) (λC s₂ H₂ fp pn=>pe _ E.cH) (ny h2),yv ji jq je⟩
theorem sPp:∀(l:Pp) {sc:Scope}{N:Qjz}{ks:List (Option Expr)}{vs:Qjq},RP c lv l sc N ks vs=true→∃ts,(∀Z pos,CE c lv K t va sc N Z→wc Z pos ks vs ts∧ks.all (·.isSome)=true∧ks.length=vs.length)∧Ba K ts (Ry t l)
 |.n,_,_,ks,vs,h=>by
  let⟨h1,h2⟩:=dG h;cases fN.mp h1;cases fN.mp h2;exact⟨_,λ_ _ _=>⟨La,rfl,rfl⟩,.nil⟩
 |.c a b l,sc,N,ks,vs,h=>by
  let hh:=aE h;clear h;let⟨⟨k,ks⟩,q,h⟩:=hh;cases jQ q;let hh:=aE h;clear h;let⟨k1,q,h⟩:=hh;let q:k=some k1:=q;subst q;let hh:=aE h;clear h;let⟨⟨v,vs⟩,q,h⟩:=hh;cases jQ q;let⟨h1,h2,h3⟩:=gn h;let⟨ta,pa,ja⟩:=sX a h1;let⟨tb,pb,jb⟩:=sX b h2;let⟨tl,pl,jl⟩:=sPp l h3;exact⟨_,λZ pos E=>(let ⟨x,y,z⟩:=pl Z pos E;⟨Ke (pa Z E) (pb Z E) x,y,by rw[gf,gf,z]⟩),.cons ja jb jl⟩
theorem sA:∀(l:A) {sc:Scope}{N:Qjz}{es:Qjq},kA c lv l sc N es=true→∃ta,(∀Z,CE c lv K t va sc N Z→PA Z es ta)∧iI K ta (eA t l)
 |.n,_,_,es,h=>by
  cases fN.mp h;exact⟨_,λ_ _=>uM,Xr⟩
 |.c a l,sc,N,es,h=>by
  let hh:=aE h;clear h;let⟨⟨e,r⟩,q,h⟩:=hh;cases jQ q;let⟨h0,h1,h2⟩:=gn h;let⟨ta,pa,ja⟩:=sX a h1;let⟨tl,pl,jl⟩:=sA l h2;exact⟨_,λZ E=>@yp _ _ _ _ _ (pa Z E) (pl Z E) (cV h0),VP ja jl⟩
theorem sT:∀(q:T) {sc:Scope}{N:Qjz}{e:Expr},kT c lv q sc N e=true→∃tt,(∀Z,CE c lv K t va sc N Z→PT Z e tt)∧fS K tt (eT t q)
 |.b x,sc,N,e,h=>by
  let⟨h1,h2⟩:=dG h;let⟨ta,pa,ja⟩:=sX x h2;exact⟨_,λZ E=>@U3 _ K _ _ E.k (pa Z E) (aaN h1),U4 ja⟩
 |.c o a b,sc,N,e,h=>by
  let hh:=aE h;clear h;let⟨⟨l,op,r⟩,q,h⟩:=hh;let⟨p,rfl⟩:=yO q;let⟨h1,h0,h2,h3⟩:=gp h;cases bt h1;let⟨ta,pa,ja⟩:=sX a h2;let⟨tb,pb,jb⟩:=sX b h3;let⟨r,o1,o2⟩:=o.ok (K:=K);exact⟨_,λZ E=>Xc (o1 Z E.k E.rm.units) (pa Z E) (pb Z E) (qP h0),Kh (y9 o2 ja jb)⟩
 |.d n a b,sc,N,e,h=>by
  let hh:=aE h;clear h;let⟨⟨l,op,r⟩,q,h⟩:=hh;let⟨p,rfl⟩:=yO q;let⟨h1,h0,h2,h3⟩:=gp h;cases bt h1;let⟨ta,pa,ja⟩:=sX a h2;let⟨tb,pb,jb⟩:=sX b h3;cases n with
  |false=>exact⟨_,λZ E=>@yG _ _ _ _ _ _ (MG (lq E.rm) (pa Z E) (pb Z E)) (qP h0),vd (aaC ja jb)⟩
  |true=>exact⟨_,λZ E=>@yG _ _ _ _ _ _ (Jz (lq E.rm) (pa Z E) (pb Z E)) (qP h0),vd (Vc ja jb)⟩
 |.t n a b,sc,N,e,h=>by
  let hh:=aE h;clear h;let⟨⟨l,op,r⟩,q,h⟩:=hh;let⟨p,rfl⟩:=yO q;let⟨h1,h0,h2,h3⟩:=gp h;cases bt h1;let⟨ta,pa,ja⟩:=sX a h2;let⟨tb,pb,jb⟩:=sX b h3;cases n with
  |false=>exact⟨_,λZ E=>@yG _ _ _ _ _ _ (MG (lq E.rm) (pa Z E) (pb Z E)) (qP h0),vd (aaG ja jb)⟩
  |true=>exact⟨_,λZ E=>@yG _ _ _ _ _ _ (Jz (lq E.rm) (pa Z E) (pb Z E)) (qP h0),vd (Vg ja jb)⟩
 |.h o p a b d,sc,N,e,h=>by
  let hh:=aE h;clear h;let⟨⟨l,op,op',m,r⟩,q,h⟩:=hh;let⟨p',rfl⟩:=aaP q;let⟨h1,h2,h3,h4,h5,h6⟩:=tE h;cases bt h1;cases bt h2;let⟨ta,pa,ja⟩:=sX a h4;let⟨tb,pb,jb⟩:=sX b h5;let⟨td,pd,jd⟩:=sX d h6;let⟨r,o1,o2⟩:=o.ok (K:=K);let⟨r',o1',o2'⟩:=p.ok (K:=K);exact⟨_,λZ E=>@Vz _ _ _ _ _ _ _ _ _ _ _ _ (o1 Z E.k E.rm.units) (o1' Z E.k E.rm.units) (pa Z E) (pb Z E) (pd Z E) (nb h3),Kh (V4 o2 o2' ja jb jd)⟩
 |.an a b,sc,N,e,h=>by
  let hh:=aE h;clear h;let⟨⟨x,y⟩,q,h⟩:=hh;let⟨m,rest,pos,rfl,w⟩:=yz q;let⟨h1,h2⟩:=dG h;let⟨ta,pa,ja⟩:=sT a h1;let⟨tb,pb,jb⟩:=sT b h2;refine⟨_,λZ E=>@PW.pt _ _ _ (@Y4 _ _ _ _ _ tb _ (pa Z E) ?_),Xp ja jb⟩;rcases w with⟨rfl,rfl⟩|rfl
  ·exact @W4 _ _ _ _ (pb Z E)
  ·exact OI (pb Z E)
 |.or a b,sc,N,e,h=>by
  let hh:=aE h;clear h;let⟨⟨x,y⟩,q,h⟩:=hh;let⟨m,rest,pos,rfl,w⟩:=yz q;let⟨h1,h2⟩:=dG h;let⟨ta,pa,ja⟩:=sT a h1;let⟨tb,pb,jb⟩:=sT b h2;refine⟨_,λZ E=>@PW.pt _ _ _ (@abF _ _ _ _ _ tb _ (pa Z E) ?_),Z0 ja jb⟩;rcases w with⟨rfl,rfl⟩|rfl
  ·exact @Y3 _ _ _ _ (pb Z E)
  ·exact OI (pb Z E)
 |.nt a,sc,N,e,h=>by
  let hh:=aE h;clear h;let⟨⟨op,r⟩,q,h⟩:=hh;let⟨p,rfl⟩:=D1 q;let⟨h1,h2⟩:=dG h;cases bt h1;let⟨ta,pa,ja⟩:=sT a h2;exact⟨_,λZ E=>Y5 (pa Z E),Xq ja⟩
 |.y,sc,N,e,h=>absurd h bx
theorem sP:∀(l:P) {sc:Scope}{N:Qjz}{e:Option Expr},kP c lv l sc N e=true→∃ta,(∀Z,CE c lv K t va sc N Z→PO Z e ta)∧wy K ta (eP t l)
 |.n,_,_,o,h=>by
  cases o with
  |some _=>cases h
  |none=>exact⟨_,λ_ _=>Xe,VR⟩
 |.s x,sc,N,o,h=>by
  let hh:=aE h;clear h;let⟨e,rfl,h⟩:=hh;let⟨ta,pa,ja⟩:=sX x h;exact⟨_,λZ E=>Xf (pa Z E),VW ja⟩
theorem sI:∀(i:I) {tg:Bool}{sc:Scope}{N:Qjz}{e:Expr},kI c lv i tg sc N e=true→∃ti,(∀Z g,CE c lv K t va sc N Z→(tg=true→Eo g=true)→PI Z g e ti)∧JI K ti (eI t i)
 |.r1 l,tg,sc,N,e,h=>by
  let hh:=aE h;clear h;let⟨⟨x,as⟩,q,h⟩:=hh;let⟨p,cp,rfl,h4⟩:=jU q;let⟨h1,h2,h3,h0,h5⟩:=qz h;cases bt h1;let⟨a,rfl⟩:=zR (bt h0);let⟨ta,pa,ja⟩:=sA l h5;exact⟨_,λZ g E _=>@UM _ _ _ _ _ _ (E.gl h2) (E.mg h3) (pa Z E) (cV (all1 h4).1),Xz ja⟩
 |.r2 l,tg,sc,N,e,h=>by
  let hh:=aE h;clear h;let⟨⟨x,as⟩,q,h⟩:=hh;let⟨p,cp,rfl,h4⟩:=jU q;let⟨h1,h2,h3,h0,h5⟩:=qz h;cases bt h1;let⟨a,b,rfl⟩:=ad3 (bt h0);let⟨h4,nr⟩:=all1 h4;let nr:=(all1 nr).1;let⟨ta,pa,ja⟩:=sA l h5;exact⟨_,λZ g E _=>@UN _ _ _ _ _ _ _ (E.gl h2) (E.mg h3) (pa Z E) (by rw[cV h4,cV nr];rfl) (cV nr),XA ja⟩
 |.en l,tg,sc,N,e,h=>by
  let hh:=aE h;clear h;let⟨⟨x,as⟩,q,h⟩:=hh;let⟨p,cp,rfl,h4⟩:=jU q;let⟨h0,h1,h2,h3,h6,h5⟩:=tE h;cases bt h1;let⟨a,rfl⟩:=zR (bt h6);let⟨ta,pa,ja⟩:=sA l h5;refine⟨_,λZ g E hg=>?_,XX ja⟩;let hg:=hg h0;cases g<;>first|exact absurd hg bx|skip
  exact @Wa _ K _ _ _ _ _ _ _ E.k (E.gl h2) (E.mg h3) (pa Z E) (cV (all1 h4).1)
 |.s x,tg,sc,N,e,h=>by
  let⟨ta,pa,ja⟩:=sX x (e:=e) h;exact⟨_,λZ g E _=>ZM (pa Z E),aaA ja⟩
 |.t x,tg,sc,N,e,h=>by
  let⟨ta,pa,ja⟩:=sX x (e:=e) h;exact⟨_,λZ g E _=>X1 E.k (pa Z E),aae ja⟩
 |.l x,tg,sc,N,e,h=>by
  let⟨ta,pa,ja⟩:=sX x (e:=e) h;exact⟨_,λZ g E _=>VL E.k (pa Z E),Xy ja⟩
end
end
abbrev loc(sc:Scope)(x:Str):Bool:=match sc.names.lookup x with
 |some .local=>true
 |some .cell=>true
 |_=>false
def Nw{sc:Scope}{x:Str}(h:loc sc x=true):L2.Loc sc x:=by
 unfold loc at h;unfold L2.Loc;split at h<;>first|exact absurd h bx|simp_all
mutual
abbrev kG:G→Scope→Qjz→Expr→Bool
 |.n i,sc,N,e=>on (tD e) λx=>decide (N[i]?=some x)&&loc sc x
 |.t k l,sc,N,e=>on (wU e) λes=>decide (es.length=k)&&es.all fF&&Bp l sc N es
 |.l k l,sc,N,e=>on (wU e) λes=>decide (es.length=k)&&es.all fF&&Bp l sc N es
abbrev Bp:Gs→Scope→Qjz→Qjq→Bool
 |.n,_,_,es=>es.isEmpty
 |.c g l,sc,N,es=>on (lU es) λq=>fF q.1&&kG g sc N q.1&&Bp l sc N q.2
end
abbrev Fo:Expr→Bool
 |.List [] _=>true
 |_=>false
def Yn{e:Expr}(h:Fo e=true):∃p,e=.List [] p:=by
 unfold Fo at h;split at h
 ·exact⟨_,rfl⟩
 ·cases h
abbrev oH:Stmt→Option (Expr×Expr×Pos)
 |.Assign [tg] e pos=>some (tg,e,pos)
 |_=>none
def qA(st:Stmt):Option (Str×Expr):=(oH st).bind λq=>(tD q.1).map λx=>(x,q.2.1)
abbrev Bq:Stmt→Option Expr
 |.Expr e _=>some e
 |_=>none
abbrev Br:Stmt→Option (Option Expr)
 |.Return e _=>some e
 |_=>none
abbrev Hm:Stmt→Option (Expr×List Stmt×List Stmt)
 |.If e a b _=>some (e,a,b)
 |_=>none
abbrev Bs:Stmt→Option (Expr×Expr×List Stmt)
 |.For tg it b [] _=>some (tg,it,b)
 |_=>none
abbrev Hn:Stmt→Option (Expr×List Stmt)
 |.While e b [] _=>some (e,b)
 |_=>none
def qZ{st:Stmt}{q:Expr×Expr×Pos}(h:oH st=some q):st=.Assign [q.1] q.2.1 q.2.2:=by
 unfold oH at h;split at h
 ·cases h;rfl
 ·cases h
def q8{st:Stmt}{y:Str}{e:Expr}(h:qA st=some (y,e)):∃p pos,st=.Assign [.Name y p] e pos:=by
 let⟨q,h1,h⟩:=jP h;let⟨x,h2,h⟩:=yN h;cases h;let⟨p,e⟩:=qY h2;exact⟨p,q.2.2,by rw[qZ h1,e]⟩
def yQ{st:Stmt}{e:Expr}(h:Bq st=some e):∃p,st=.Expr e p:=by
 cases st<;>cases h;exact⟨_,rfl⟩
def yR{st:Stmt}{e:Option Expr}(h:Br st=some e):∃p,st=.Return e p:=by
 cases st<;>cases h;exact⟨_,rfl⟩
def Nx{st:Stmt}{e:Expr}{a b:List Stmt}(h:Hm st=some (e,a,b)):∃p,st=.If e a b p:=by
 cases st<;>cases h;exact⟨_,rfl⟩
def Ny{st:Stmt}{a b:Expr}{l:List Stmt}(h:Bs st=some (a,b,l)):∃p,st=.For a b l [] p:=by
 unfold Bs at h;split at h
 ·cases h;exact⟨_,rfl⟩
 ·cases h
def aaY{st:Stmt}{e:Expr}{l:List Stmt}(h:Hn st=some (e,l)):∃p,st=.While e l [] p:=by
 unfold Hn at h;split at h
 ·cases h;exact⟨_,rfl⟩
 ·cases h
abbrev ioq:Option (Qxj)→Bool
 |some (_::_)=>true
 |_=>false
abbrev RQ(c:Cf)(lv:Nat)(f:Nat)(l:A)(sc:Scope)(N:Qjz)(e:Expr):Bool :=
 on (eN e) λq=>on c.fs[f]? λi=>decide (q.1=i.nm)&&gl sc q.1&&!(q.1 == "__debug__")&&decide (i.lv≤lv)&&decide (q.2.length=i.ar)&&decide (i.io=some [])&&!q.2.isEmpty&&kA c lv l sc N q.2
def RV(c:Cf)(lv:Nat)(f:Nat)(l:A)(sc:Scope)(N:Qjz)(e:Expr):Bool :=
 on (eN e) λq=>on c.fs[f]? λi=>decide (q.1=i.nm)&&gl sc q.1&&!(q.1 == "__debug__")&&decide (i.lv≤lv)&&decide (q.2.length=i.ar)&&ioq i.io&&!q.2.isEmpty&&kA c lv l sc N q.2
def kL(c:Cf)(lv:Nat):L→Scope→Qjz→Stmt→Bool
 |.rt x,sc,N,st=>on (Br st) λo=>on o λe=>kX c lv x sc N e
 |.st i x,sc,N,st=>on (qA st) λs=>decide (N[i]?=some s.1)&&loc sc s.1&&lC s.2&&kX c lv x sc N s.2
 |.sc j i ix q e,sc,N,st=>on (qA st) λs=>decide (N[j]?=some s.1)&&loc sc s.1&&kX c lv (.cp i ix q e) sc N s.2
 |.as g x,sc,N,st=>on (oH st) λs=>Eo s.1&&wO s.2.1&&kG g sc N s.1&&kX c lv x sc N s.2.1
 |.si k i x,sc,N,st=>on (oH st) λs=>on (kQ s.1) λu=>nh u.2&&lC s.2.1&&kX c lv (.v k) sc N u.1&&kX c lv i sc N u.2&&kX c lv x sc N s.2.1
 |.dp k i x,sc,N,st=>on (oH st) λs=>on (kQ s.1) λu=>lC s.2.1&&kX c lv (.v k) sc N u.1&&kX c lv i sc N u.2&&kX c lv x sc N s.2.1
 |.ap k x,sc,N,st=>on (Bq st) λe=>on (eM "append" e) λq=>on (l1 q.2) λa=>kX c lv (.v k) sc N q.1&&kX c lv x sc N a
 |.na k i x,sc,N,st=>on (Bq st) λe=>on (eM "append" e) λq=>on (l1 q.2) λa=>on (kQ q.1) λu=>nh u.2&&kX c lv (.v k) sc N u.1&&kX c lv i sc N u.2&&kX c lv x sc N a
 |.po i k,sc,N,st=>on (qA st) λs=>on (eM "pop" s.2) λq=>decide (N[i]?=some s.1)&&loc sc s.1&&q.2.isEmpty&&kX c lv (.v k) sc N q.1
 |.rv k,sc,N,st=>on (Bq st) λe=>on (eM "reverse" e) λq=>q.2.isEmpty&&kX c lv (.v k) sc N q.1
 |.ne i it,sc,N,st=>on (qA st) λs=>on (zP s.2) λq=>decide (N[i]?=some s.1)&&loc sc s.1&&q.2.2.2.2.1.isEmpty&&Fo q.1&&Hg N (ns N q.2.1 []) sc q.2.2.2.2.2.1 q.2.1 []&&(kc q.2.2.2.1&&kI c lv it false sc N q.2.2.2.1)
 |.tp k i x,sc,N,st=>on (oH st) λs=>on (kQ s.1) λu=>lC s.2.1&&kX c lv (.v k) sc N u.1&&kX c lv i sc N u.2&&kX c lv x sc N s.2.1
 |.rT l,sc,N,st=>on (Br st) λo=>on o λe=>on (wU e) λes=>kA c lv l sc N es
 |.rO f _ l,sc,N,st=>on (Br st) λo=>on o λe=>RQ c lv f l sc N e
 |.iS j f _ l,sc,N,st=>on (qA st) λs=>decide (N[j]?=some s.1)&&loc sc s.1&&RV c lv f l sc N s.2
def RW(c:Cf)(lv:Nat)(i:Nat):Ch→Scope→Qjz→Stmt→Bool
 |.a k x,sc,N,st=>kL c lv (.na i k x) sc N st
 |.d k y x,sc,N,st=>on (oH st) λs=>on (kQ s.1) λu=>on (kQ u.1) λv=>lC s.2.1&&nh v.2&&kX c lv (.v i) sc N v.1&&kX c lv k sc N v.2&&kX c lv y sc N u.2&&kX c lv x sc N s.2.1
def zS(c:Cf)(lv:Nat)(i:Nat):List Ch→Scope→Qjz→List Stmt→Option (List Stmt)
 |[],_,_,ss=>some ss
 |x::l,sc,N,st::ss=>if RW c lv i x sc N st=true then zS c lv i l sc N ss else none
 |_,_,_,_=>none
mutual
abbrev kS(c:Cf)(lv:Nat):S→Scope→Qjz→Stmt→Bool
 |.l x,sc,N,st=>kL c lv x sc N st
 |.ie t a b,sc,N,st=>on (Hm st) λq=>kT c lv t sc N q.1&&kB c lv a sc N q.2.1&&kB c lv b sc N q.2.2
 |.fo i g b,sc,N,st=>on (Bs st) λq=>kI c lv i (Eo q.1) sc N q.2.1&&kc q.2.1&&kG g sc N q.1&&kB c lv b sc N q.2.2
 |.fk k g b,sc,N,st=>on (Bs st) λq=>kc q.2.1&&kX c lv (.v k) sc N q.2.1&&kG g sc N q.1&&kB c lv b sc N q.2.2
 |.wh t b,sc,N,st=>on (Hn st) λq=>kT c lv t sc N q.1&&kB c lv b sc N q.2
 |.fz _ s,sc,N,st=>kS c lv s sc N st
abbrev kB(c:Cf)(lv:Nat):B→Scope→Qjz→List Stmt→Bool
 |.n,_,_,ss=>ss.isEmpty
 |.o s,sc,N,ss=>on (l1 ss) λst=>kS c lv s sc N st
 |.c s b,sc,N,ss=>on (lU ss) λq=>kS c lv s sc N q.1&&kB c lv b sc N q.2
 |.u i x q r cs b,sc,N,ss=>on (lU ss) λs=>on (lU s.2) λz=>on (qA s.1) λw=>on (Hm z.1) λg=>on (l1 g.2.1) λst=>on (zS c lv i cs sc N z.2) λr'=>(decide (N[i]?=some w.1)&&loc sc w.1&&lC w.2&&kX c lv x sc N w.2)&&kT c lv q sc N g.1&&kL c lv (.rt r) sc N st&&g.2.2.isEmpty&&kB c lv b sc N r'
end
structure CS (c:Cf)(lv:Nat)(K:Qzk)(t:List FT)(va:List V)(sc:Scope)(N:Qjz)(Z:Cx):Prop where
 e:CE c lv K t va sc N Z
 nd:N.Nodup
 fn:∀x,Z.fn x=true
 po:PassesOwn (model Z.prog Z.w) Z.A Z.env Z.xe
 kd:sc.kind=.function
section
variable {c:Cf}{lv:Nat}{K:Qzk}{t:List FT}{va:List V}
def sV{k:Nat}{sc:Scope}{N:Qjz}{e:Expr}(h:kX c lv (.v k) sc N e=true)(Z:Cx)(E:CE c lv K t va sc N Z):PE Z e (iw k):=by
 let hh:=aE h;clear h;let⟨x,q,h⟩:=hh;let⟨p,rfl⟩:=qY q;let⟨h1,h2,h3,h4⟩:=gp h;let h1:=bt h1;let h2:=Nt h2;exact @Mw _ _ _ _ (E.n▸h1) (E.sc▸h2) (nb h3) (nb h4)
def JM{e:Expr}(h:fF e=true){es:Qjq}{env:Env}:assignEach (e::es) env=(false,assign e env)::assignEach es env:=by
 cases e<;>first|rfl|cases h
theorem tX{env:Env}:∀{es:Qjq},es.all fF=true→(assignEach es env).length=es.length∧(assignEach es env).findIdx? (λx=>x.1)=none
 |[],_=>⟨rfl,rfl⟩
 |e::es,h=>by
  rw[p9,lI]at h;let⟨h1,h2⟩:=tX (env:=env) h.2;rw[JM h.1];refine⟨by simp[h1],?_⟩;rw[List.findIdx?_cons,h2];rfl
mutual
theorem sG:∀(g:G) {sc:Scope}{N:Qjz}{e:Expr},kG g sc N e=true→∃tg,(∀Z,CS c lv K t va sc N Z→PG Z e tg)∧JG K tg (eG g)
 |.n i,sc,N,e,h=>by
  let hh:=aE h;clear h;let⟨x,q,h⟩:=hh;let⟨p,rfl⟩:=qY q;let⟨h1,h2⟩:=dG h;let h1:=bt h1;exact⟨_,λZ E=>@K1 _ _ i _ (E.e.n▸E.nd) (E.e.n▸h1) (E.e.sc▸Nw h2) (.inl (E.fn _)),XB⟩
 |.t k l,sc,N,e,h=>by
  let hh:=aE h;clear h;let⟨es,q,h⟩:=hh;let⟨k',p,rfl⟩:=yP q;let⟨h1,h2,h3⟩:=gn h;cases bt h1;let⟨tg,pg,jg⟩:=Ho l h3;exact⟨_,λZ E=>E.e.k▸@Y9 _ _ _ _ _ _ E.e.calm (pg Z E) (tX h2).1 (tX h2).2,aaf jg⟩
 |.l k l,sc,N,e,h=>by
  let hh:=aE h;clear h;let⟨es,q,h⟩:=hh;let⟨k',p,rfl⟩:=yP q;let⟨h1,h2,h3⟩:=gn h;cases bt h1;let⟨tg,pg,jg⟩:=Ho l h3;exact⟨_,λZ E=>E.e.k▸@ZK _ _ _ _ _ _ E.e.calm (pg Z E) (tX h2).1 (tX h2).2,aay jg⟩
theorem Ho:∀(l:Gs) {sc:Scope}{N:Qjz}{es:Qjq},Bp l sc N es=true→∃tg,(∀Z,CS c lv K t va sc N Z→sJ Z es tg)∧sW K tg (Bl l)
 |.n,_,_,es,h=>by
  cases fN.mp h;exact⟨_,λ_ _=>W8,XC⟩
 |.c g l,sc,N,es,h=>by
  let hh:=aE h;clear h;let⟨⟨e,r⟩,q,h⟩:=hh;cases jQ q;let⟨h0,h1,h2⟩:=gn h;let⟨ta,pa,ja⟩:=sG g h1;let⟨tl,pl,jl⟩:=Ho l h2;exact⟨_,λZ E=>@Vx _ _ _ _ _ (pa Z E) (pl Z E) (by rw[JM h0];rfl),V0 ja jl⟩
end
theorem Hq:∀(l:A) {sc:Scope}{N:Qjz}{es:Qjq},kA c lv l sc N es=true→∃ta,(∀Z,CE c lv K t va sc N Z→PA Z es ta)∧kK K ta (eA t l) (pU l)
 |.n,_,_,es,h=>by
  cases fN.mp h;exact⟨_,λ_ _=>uM,XY⟩
 |.c a l,sc,N,es,h=>by
  let hh:=aE h;clear h;let⟨⟨e,r⟩,q,h⟩:=hh;cases jQ q;let⟨h0,h1,h2⟩:=gn h;let⟨tl,pl,jl⟩:=Hq l h2;cases a with
  |v i=>exact⟨_,λZ E=>@yp _ _ _ _ _ (sV h1 Z E) (pl Z E) (cV h0),XZ jl⟩
  |_ =>
   let⟨ta,pa,ja⟩:=sX _ h1;exact⟨_,λZ E=>@yp _ _ _ _ _ (pa Z E) (pl Z E) (cV h0),Wb ja jl⟩
def nP{e:Expr}{o:Option Expr}{n:Nat}{env:Env}(h:lC e=true):swapsWith e o n env=pure false:=by
 cases e<;>first|rfl|cases h
end
end C
set_option maxHeartbeats 4000000
namespace C
open PySem PySem.Spec L2 J
section
variable {c:Cf}{lv:Nat}{K:Qzk}{t:List FT}{va:List V}
def L0{el:Expr}{gs:List Comprehension}{aD:Scope}{ep py:Pos}{y:Str}{n:Nat}{env:Env} :
  swapsWith (.ListComp el gs aD ep) (some (.Name y py)) n env=pure true∧env.scope.names.lookup y=some .local∨swapsWith (.ListComp el gs aD ep) (some (.Name y py)) n env=pure false:=by
 let e:swapsWith (.ListComp el gs aD ep) (some (.Name y py)) n env=pure (env.blockKind==.function&&env.kindOf y==some .local&&py.line==ep.line&&!(aD.names.any λx=>match x with | (n,k)=>n==y&&(k==NameKind.local||k==NameKind.cell))):=rfl
 rw[e];generalize hb:(env.blockKind==.function&&env.kindOf y==some .local&&py.line==ep.line&&!(aD.names.any λx=>match x with | (n,k)=>n==y&&(k==NameKind.local||k==NameKind.cell)))=b
 cases b with
 |false=>exact .inr rfl
 |true =>
  let⟨_,h,_,_⟩:=gp hb;exact .inl ⟨rfl,by simpa[Env.kindOf]using h⟩
def sCp{i:I}{ix:Qxj}{t':T}{d:X}{sc:Scope}{N:Qjz}{e:Expr}(h:kX c lv (.cp i ix t' d) sc N e=true) :
  ∃el x px it ifs aD ep wi tc te,e=.ListComp el [⟨.Name x px,it,ifs,0⟩] aD ep∧(∀Z,CE c lv K t va sc N Z→mz Z.N (ns N x ix) Z.env.scope aD x ix∧PI Z (.Name x px) it wi∧(∀C s₂ H₂ fp pn,oA (Z.cH (ns N x ix) aD C s₂ H₂ fp pn) ifs tc)∧(∀C s₂ H₂ fp pn,PE (Z.cH (ns N x ix) aD C s₂ H₂ fp pn) el te))∧kc it=true∧JT K (rA wi ix tc te) (eX t (.cp i ix t' d)):=by
 let hh:=aE h;clear h;let⟨⟨el,x,px,it,ifs,aD,ep⟩,q,h⟩:=hh;cases Dz q;let⟨h1,h2,h3,h4,h5⟩:=qz h;let h1:=D0 h1;let⟨ti,pi,ji⟩:=sI i h3;let⟨te,pe,je⟩:=sX d h5;let h4:(ifs.isEmpty=true∧Hj t'=true)∨(on (l1 ifs) λy=>kT c lv t' (rl sc aD) (ns N x ix) y)=true:=by simpa using h4
 rcases h4 with⟨w1,w2⟩|h4
 ·cases fN.mp w1;cases t'<;>first|exact absurd w2 bx|skip
  exact⟨el,x,px,it,[],aD,ep,_,_,_,rfl,λZ E=>⟨by rw[E.n,E.sc];exact h1,pi Z (.Name x px) E (λz=>absurd z bx),(λC s₂ H₂ fp pn=>yq),(λC s₂ H₂ fp pn=>pe _ E.cH)⟩,h2,yv ji Ln je⟩
 ·let hh:=aE h4;clear h4;let⟨y,q,h4⟩:=hh;cases iU q;let⟨tq,pq,jq⟩:=sT t' h4;exact⟨el,x,px,it,[y],aD,ep,_,_,_,rfl,λZ E=>⟨by rw[E.n,E.sc];exact h1,pi Z (.Name x px) E (λz=>absurd z bx),(λC s₂ H₂ fp pn=>Lc (pq _ E.cH)),(λC s₂ H₂ fp pn=>pe _ E.cH)⟩,h2,yv ji jq je⟩
def sIO{f:Nat}{l:A}{sc:Scope}{N:Qjz}{e:Expr}(h:RV c lv f l sc N e=true):∃n ta,(∀Z,CE c lv K t va sc N Z→PE Z e (nG (vA K n (FT.l t[f]?) (FT.o t[f]?)) [] E0 ta))∧kK K ta (eA t l) (pU l)∧lC e=true∧∀(e:Ev) (ay:List (M×D)),eA t l e=some ay→ay.length=n:=by
 let hh:=aE h;clear h;let⟨⟨x,as⟩,q,h⟩:=hh;let⟨p,cp,rfl,wW⟩:=jU q;let hh:=aE h;clear h;let⟨i,hf,h⟩:=hh;let⟨h1,h2,h3,h4,h5,lW,h0,h8⟩:=Hl h;let⟨a,r,rfl⟩:=yA h0;let⟨h6,h7⟩:=all1 wW;let h1:=bt h1;let⟨ta,pa,ja⟩:=Hq l h8;let hl:=zQ (t:=t) h8;rw[show(a::r).length=i.ar from bt h5]at hl;refine⟨i.ar,ta,λZ E=>?_,ja,rfl,hl⟩;let⟨F,hF,q⟩:=E.fs f i hf;cases F with
 |p F=>rw[q.1]at lW;cases lW
 |oo F=>rw[q.1]at lW;cases lW
 |io l F =>
  let⟨_,a,fd,ps,k1,k2,k3,k4⟩:=q;rw[←h1]at k2;rw[hF,←E.k];exact @Dj _ _ _ _ _ _ _ _ _ _ _ _ _ _ _ _ k1 (E.rm.mono (bt h4)) (E.gl h2) k2 k3 k4.1 .nil Ef (pa Z E) (nb h3) (cV h6) (jf h7 _)
def sOO{f:Nat}{l:A}{sc:Scope}{N:Qjz}{e:Expr}(h:RQ c lv f l sc N e=true):∃n ta,(∀Z,CE c lv K t va sc N Z→PE Z e (nG (zO K n (FT.q t[f]?)) [] E0 ta))∧kK K ta (eA t l) (pU l)∧lC e=true∧∀(e:Ev) (ay:List (M×D)),eA t l e=some ay→ay.length=n:=by
 let hh:=aE h;clear h;let⟨⟨x,as⟩,q,h⟩:=hh;let⟨p,cp,rfl,wW⟩:=jU q;let hh:=aE h;clear h;let⟨i,hf,h⟩:=hh;let⟨h1,h2,h3,h4,h5,lW,h0,h8⟩:=Hl h;let⟨a,r,rfl⟩:=yA h0;let⟨h6,h7⟩:=all1 wW;let h1:=bt h1;let⟨ta,pa,ja⟩:=Hq l h8;let hl:=zQ (t:=t) h8;rw[show(a::r).length=i.ar from bt h5]at hl;refine⟨i.ar,ta,λZ E=>?_,ja,rfl,hl⟩;let⟨F,hF,q⟩:=E.fs f i hf;cases F with
 |p F=>rw[lV,bt lW]at q;cases q.1
 |io l F=>rw[lV,bt lW]at q;exact absurd (eC q.1.1).symm q.1.2
 |oo F =>
  let⟨_,a,fd,ps,k1,k2,k3,k4⟩:=q;rw[←h1]at k2;rw[hF,←E.k];exact @Dj _ _ _ _ _ _ _ _ _ _ _ _ _ _ _ _ k1 (E.rm.mono (bt h4)) (E.gl h2) k2 k3 k4.1 .nil Ef (pa Z E) (nb h3) (cV h6) (jf h7 _)
def aaZ{e:Expr}(h:wO e=true):lC e=true:=by
 cases e<;>first|rfl|cases h
def aa0{e:Expr}{es:Qjq}{k:Nat}{p:Pos}{env:Env}(h:wO e=true):swappedStores [.Tuple es k p] e env=pure none:=by
 cases e<;>first|rfl|cases h
def RX {o:Expr}{nm:Str}{ap cp:Pos}{to:TE}{id:String}{r:V→List V→Hp→VK→Prop}{Z:Cx} (k:Z.K=K) (h1:Slot "list" nm id) (h2:typeOf (.builtin id)=pure (.type "method_descriptor")) (h3:Gj Z id r) (ho:PE Z o to) (h4:wQ o=true) (h5:(ap.endLine==cp.line)=true):PE Z (.Call (.Attribute o nm ap) [] [] cp) (zE K "list" r to) :=
 k▸@ZF _ _ _ _ _ _ _ _ _ PySem.F.plainAttrs_list h1 h2 h3 ho (DZ h4) h5
def wq{o a:Expr}{ap cp:Pos}{to ta:TE}{Z:Cx}(k:Z.K=K)(ho:PE Z o to)(ha:PE Z a ta)(h4:wQ o=true)(h5:(ap.endLine==cp.line)=true)(h6:fF a=true):PE Z (.Call (.Attribute o "append" ap) [a] [] cp) (wa K "list" uF to (nF ta mI)) :=
 k▸@abS _ _ _ _ _ _ _ _ _ _ _ _ PySem.F.plainAttrs_list PySem.F.slot_list_append PySem.F.type_list_append Jx ho (@yp _ _ _ _ _ ha uM (cV h6)) (DZ h4) (aaW h6) h5 (cV h6) aaX
def sf{Z:Cx}{sc:Scope}{N:Qjz}{e:Expr}{te:TE}{pos py:Pos}{y:Str}{i:Nat}(E:CS c lv K t va sc N Z)(h1:N[i]?=some y)(h2:loc sc y=true)(h:PE Z e te)(hs:swapsWith e (some (Expr.Name y py)) pos.line Z.env=pure false):gH Z (.Assign [.Name y py] e pos) (iy te (gW i)) :=
 @aaB _ _ _ _ _ _ i (E.e.n▸E.nd) (E.e.n▸h1) (E.e.sc▸Nw h2) h hs (.inl (E.fn _))
def sL:∀(s:L) {sc:Scope}{N:Qjz}{st:Stmt},kL c lv s sc N st=true→∃ts,(∀Z,CS c lv K t va sc N Z→gH Z st ts)∧JS K ts (eL t s)
 |.rt x,sc,N,st,h=>by
  let hh:=aE h;clear h;let⟨o,q,h⟩:=hh;let⟨p,rfl⟩:=yR q;let hh:=aE h;clear h;let⟨e,rfl,h⟩:=hh;let⟨te,pe,je⟩:=sX x h;exact⟨_,λZ E=>yM (pe Z E.e),Z6 je⟩
 |.st i x,sc,N,st,h=>by
  let hh:=aE h;clear h;let⟨⟨y,e⟩,q,h⟩:=hh;let⟨py,pos,rfl⟩:=q8 q;let⟨h1,h2,h3,h4⟩:=gp h;let⟨te,pe,je⟩:=sX x h4;exact⟨_,λZ E=>sf E (bt h1) h2 (pe Z E.e) (nP h3),MX je⟩
 |.sc j i ix t' d,sc,N,st,h=>by
  let hh:=aE h;clear h;let⟨⟨y,e⟩,q,h⟩:=hh;let⟨py,pos,rfl⟩:=q8 q;let⟨h1,h2,h3⟩:=gn h;let h1:=bt h1;let⟨el,z,pz,it,ifs,aD,ep,wi,tc,te,e,pe,ns,je⟩:=sCp h3;let e:_=Expr.ListComp el [⟨.Name z pz,it,ifs,0⟩] aD ep:=e;subst e;refine⟨_,λZ E=>?_,MX je⟩;let⟨p1,p2,p3,p4⟩:=pe Z E.e;rcases L0 (el:=el) (gs:=[⟨.Name z pz,it,ifs,0⟩]) (aD:=aD) (ep:=ep) (py:=py) (y:=y) (n:=pos.line) (env:=Z.env) with⟨w,l⟩|w
  ·exact @Jc _ _ _ _ _ _ _ _ _ _ _ _ _ j _ _ _ (E.e.n▸E.nd) (E.e.n▸h1) l p1 E.e.calm p2 p3 p4 w (ny ns)
  ·exact sf E h1 h2 (@yr _ _ _ _ _ _ _ _ _ _ _ _ _ p1 E.e.calm p2 p3 p4 (ny ns)) w
 |.as g x,sc,N,st,h=>by
  let hh:=aE h;clear h;let⟨⟨tg,e,pos⟩,q,h⟩:=hh;cases qZ q;let⟨h1,h2,h3,h4⟩:=gp h;let⟨te,pe,je⟩:=sX x h4;let⟨RZ,pg,jg⟩:=sG g h3;refine⟨_,λZ E=>@M9 _ _ _ _ _ _ (pe Z E.e) (pg Z E) ?_ ?_ ?_,aag je jg⟩
  ·exact(show swapsWith e (some tg) pos.line Z.env=pure false from nP (aaZ h2))
  ·cases tg<;>first|exact absurd h1 bx|skip
   exact aa0 h2
  ·cases tg<;>first|rfl|exact absurd h1 bx
 |.si k i x,sc,N,st,h=>by
  let hh:=aE h;clear h;let⟨⟨tg,e,pos⟩,q,h⟩:=hh;cases qZ q;let hh:=aE h;clear h;let⟨⟨o,ie⟩,q,h⟩:=hh;let⟨p,r⟩:=jR q;let r:tg=_:=r;subst r;let⟨h1,h2,h3,h4,h5⟩:=qz h;let⟨ti,pi,ji⟩:=sX i h4;let⟨te,pe,je⟩:=sX x h5;refine⟨_,λZ E=>@M9 _ _ _ _ _ _ (pe Z E.e) (@Za _ _ _ _ _ _ _ (sV h3 Z E.e) (pi Z E.e) set_list (aaM h1)) ?_ ?_ rfl,VY je ji⟩
  ·exact(show swapsWith e (some (Expr.Subscript o ie p)) pos.line Z.env=pure false from nP h2)
  ·cases e<;>rfl
 |.dp k i x,sc,N,st,h=>by
  let hh:=aE h;clear h;let⟨⟨tg,e,pos⟩,q,h⟩:=hh;cases qZ q;let hh:=aE h;clear h;let⟨⟨o,ie⟩,q,h⟩:=hh;let⟨p,r⟩:=jR q;let r:tg=_:=r;subst r;let⟨h2,h3,h4,h5⟩:=gp h;let⟨ti,pi,ji⟩:=sX i h4;let⟨te,pe,je⟩:=sX x h5;exact⟨_,λZ E=>Dx (lq E.e.rm) (sV h3 Z E.e) (pi Z E.e) (pe Z E.e) (nP h2),X5 je ji⟩
 |.ap k x,sc,N,st,h=>by
  let hh:=aE h;clear h;let⟨e,q,h⟩:=hh;let⟨pos,rfl⟩:=yQ q;let hh:=aE h;clear h;let⟨⟨o,as⟩,q,h⟩:=hh;let⟨ap,cp,rfl,h2,h3,h4⟩:=rF q;let hh:=aE h;clear h;let⟨a,q1,h⟩:=hh;cases iU q1;let⟨h5,h6⟩:=dG h;let⟨te,pe,je⟩:=sX x h6;exact⟨_,λZ E=>@yw _ _ _ _ (wq E.e.k (sV h5 Z E.e) (pe Z E.e) h2 h3 (all1 h4).1) rfl,Z8 je⟩
 |.na k i x,sc,N,st,h=>by
  let hh:=aE h;clear h;let⟨e,q,h⟩:=hh;let⟨pos,rfl⟩:=yQ q;let hh:=aE h;clear h;let⟨⟨o,as⟩,q,h⟩:=hh;let⟨ap,cp,rfl,h2,h3,h4⟩:=rF q;let hh:=aE h;clear h;let⟨a,q1,h⟩:=hh;cases iU q1;let hh:=aE h;clear h;let⟨⟨o',ie⟩,q,h⟩:=hh;let⟨p,r⟩:=jR q;let r:o=_:=r;subst r;let⟨h0,h5,h6,h7⟩:=gp h;let⟨ti,pi,ji⟩:=sX i h6;let⟨te,pe,je⟩:=sX x h7;exact⟨_,λZ E=>@yw _ _ _ _ (wq E.e.k (@y8 _ _ _ _ _ _ _ (yt E.e.k) (sV h5 Z E.e) (pi Z E.e) (rE h0)) (pe Z E.e) h2 h3 (all1 h4).1) rfl,X9 ji je⟩
 |.po i k,sc,N,st,h=>by
  let hh:=aE h;clear h;let⟨⟨y,e⟩,q,h⟩:=hh;let⟨py,pos,rfl⟩:=q8 q;let hh:=aE h;clear h;let⟨⟨o,as⟩,q,h⟩:=hh;let⟨ap,cp,r,h2,h3,h4⟩:=rF q;let r:e=_:=r;subst r;let⟨h1,h5,h0,h6⟩:=gp h;cases fN.mp h0;exact⟨_,λZ E=>sf E (bt h1) h5 (RX E.e.k PySem.F.slot_list_pop PySem.F.type_list_pop ZH (sV h6 Z E.e) h2 h3) rfl,Z9⟩
 |.rv k,sc,N,st,h=>by
  let hh:=aE h;clear h;let⟨e,q,h⟩:=hh;let⟨pos,rfl⟩:=yQ q;let hh:=aE h;clear h;let⟨⟨o,as⟩,q,h⟩:=hh;let⟨ap,cp,rfl,h2,h3,h4⟩:=rF q;let⟨h0,h6⟩:=dG h;cases fN.mp h0;exact⟨_,λZ E=>@yw _ _ _ _ (RX E.e.k PySem.F.slot_list_reverse PySem.F.type_list_reverse Uv (sV h6 Z E.e) h2 h3) rfl,aac⟩
 |.ne i it,sc,N,st,h=>by
  let hh:=aE h;clear h;let⟨⟨y,e⟩,q,h⟩:=hh;let⟨py,pos,rfl⟩:=q8 q;let hh:=aE h;clear h;let⟨⟨el,z,pz,ie,ifs,aD,ep⟩,q,h⟩:=hh;let r:e=_:=Dz q;subst r;let⟨h1,h2,q1,q2,h6,h7⟩:=tE h;let⟨h4,h5⟩:=dG h7;let h1:=bt h1;let⟨lp,r⟩:=Yn q2;let r:el=_:=r;subst r;cases fN.mp q1;let h6:=D0 h6;let⟨ti,pi,ji⟩:=sI it h5;refine⟨_,λZ E=>?_,X8 (ix:=[]) ji⟩;let p1:mz Z.N (ns N z []) Z.env.scope aD z []:=by rw[E.e.n,E.e.sc];exact h6
  let p2:=pi Z (.Name z pz) E.e (λz=>absurd z bx);rcases L0 (el:=.List [] lp) (gs:=[⟨.Name z pz,ie,[],0⟩]) (aD:=aD) (ep:=ep) (py:=py) (y:=y) (n:=pos.line) (env:=Z.env) with⟨w,l⟩|w
  ·exact @Jc _ _ _ _ _ _ _ _ _ _ _ _ _ i _ _ _ (E.e.n▸E.nd) (E.e.n▸h1) l p1 E.e.calm p2 (λC s₂ H₂ fp pn=>yq) (λC s₂ H₂ fp pn=>DU uM) w (ny h4)
  ·exact sf E h1 h2 (@yr _ _ _ _ _ _ _ _ _ _ _ _ _ p1 E.e.calm p2 (λC s₂ H₂ fp pn=>yq) (λC s₂ H₂ fp pn=>DU uM) (ny h4)) w
 |.tp k i x,sc,N,st,h=>by
  let hh:=aE h;clear h;let⟨⟨tg,e,pos⟩,q,h⟩:=hh;cases qZ q;let hh:=aE h;clear h;let⟨⟨o,ie⟩,q,h⟩:=hh;let⟨p,r⟩:=jR q;let r:tg=_:=r;subst r;let⟨h2,h3,h4,h5⟩:=gp h;let⟨ti,pi,ji⟩:=sX i h4;let⟨te,pe,je⟩:=sX x h5;exact⟨_,λZ E=>Dx (lq E.e.rm) (sV h3 Z E.e) (pi Z E.e) (pe Z E.e) (nP h2),Yf je ji⟩
 |.rT l,sc,N,st,h=>by
  let hh:=aE h;clear h;let⟨o,q,h⟩:=hh;let⟨p,rfl⟩:=yR q;let hh:=aE h;clear h;let⟨e,rfl,h⟩:=hh;let hh:=aE h;clear h;let⟨es,q,h⟩:=hh;let⟨k',p',rfl⟩:=yP q;let⟨ta,pa,ja⟩:=sA l h;exact⟨_,λZ E=>yM (MB (pa Z E.e)),Yi ja⟩
 |.rO f sl l,sc,N,st,h=>by
  let hh:=aE h;clear h;let⟨o,q,h⟩:=hh;let⟨pos,rfl⟩:=yR q;let hh:=aE h;clear h;let⟨e,rfl,h⟩:=hh;let⟨n,ta,p1,p2,nc,p3⟩:=sOO h;exact⟨_,λZ E=>yM (p1 Z E.e),Wo p2 p3⟩
 |.iS j f sl l,sc,N,st,h=>by
  let hh:=aE h;clear h;let⟨⟨y,e⟩,q,h⟩:=hh;let⟨py,pos,rfl⟩:=q8 q;let⟨h1,h2,h3⟩:=gn h;let⟨n,ta,p1,p2,nc,p3⟩:=sIO h3;exact⟨_,λZ E=>sf E (bt h1) h2 (p1 Z E.e) (nP nc),Wc p2 p3⟩
def sCh{i:Nat}:∀(x:Ch) {sc:Scope}{N:Qjz}{st:Stmt},RW c lv i x sc N st=true→∃ts,(∀Z,CS c lv K t va sc N Z→gH Z st ts)∧A8 K i ts (He t x)
 |.a k x,sc,N,st,h=>by
  let hh:=aE h;clear h;let⟨e,q,h⟩:=hh;let⟨pos,rfl⟩:=yQ q;let hh:=aE h;clear h;let⟨⟨o,as⟩,q,h⟩:=hh;let⟨ap,cp,rfl,h2,h3,h4⟩:=rF q;let hh:=aE h;clear h;let⟨a,q1,h⟩:=hh;cases iU q1;let hh:=aE h;clear h;let⟨⟨o',ie⟩,q,h⟩:=hh;let⟨p,r⟩:=jR q;let r:o=_:=r;subst r;let⟨h0,h5,h6,h7⟩:=gp h;let⟨ti,pi,ji⟩:=sX k h6;let⟨te,pe,je⟩:=sX x h7;exact⟨_,λZ E=>@yw _ _ _ _ (wq E.e.k (@y8 _ _ _ _ _ _ _ (yt E.e.k) (sV h5 Z E.e) (pi Z E.e) (rE h0)) (pe Z E.e) h2 h3 (all1 h4).1) rfl,ach ji je⟩
 |.d k y x,sc,N,st,h=>by
  let hh:=aE h;clear h;let⟨⟨tg,e,pos⟩,q,h⟩:=hh;cases qZ q;let hh:=aE h;clear h;let⟨⟨o,ie⟩,q,h⟩:=hh;let⟨p,r⟩:=jR q;let r:tg=_:=r;subst r;let hh:=aE h;clear h;let⟨⟨o',ke⟩,q,h⟩:=hh;let⟨p',r⟩:=jR q;let r:o=_:=r;subst r;let⟨h1,h2,h3,h4,h5,h6⟩:=tE h;let⟨tk,pk,jk⟩:=sX k h4;let⟨ty,py,jy⟩:=sX y h5;let⟨te,pe,je⟩:=sX x h6;exact⟨_,λZ E=>Dx (lq E.e.rm) (@y8 _ _ _ _ _ _ _ (yt E.e.k) (sV h3 Z E.e) (pk Z E.e) (rE h2)) (py Z E.e) (pe Z E.e) (nP h1),aci jk jy je⟩
theorem Pu{i:Nat}:∀(l:List Ch) {sc:Scope}{N:Qjz}{ss rs:List Stmt},zS c lv i l sc N ss=some rs→∃ts,(∀Z tb,CS c lv K t va sc N Z→j8 Z rs tb→j8 Z ss (ts.foldr nR tb))∧rZ K i ts (l.map (He t))
  |[],sc,N,ss,rs,h=>by
    cases h;exact⟨[],λ_ _ _ q=>q,.nil⟩
  |x::l,sc,N,[],rs,h=>by cases h
  |x::l,sc,N,st::ss,rs,h=>by
    unfold zS at h;split at h
    · rename_i hk
      let⟨ta,pa,ja⟩:=sCh x hk;let⟨ts,ps,js⟩:=Pu l h;exact⟨ta::ts,λZ tb E q=>yi (pa Z E) (ps Z tb E q),.cons ja js⟩
    · cases h
mutual
theorem sS:∀(s:S) {sc:Scope}{N:Qjz}{st:Stmt},kS c lv s sc N st=true→∃ts,(∀Z,CS c lv K t va sc N Z→gH Z st ts)∧JS K ts (eS t s)
 |.l x,sc,N,st,h=>sL x (st:=st) h
 |.ie t' a b,sc,N,st,h=>by
  let hh:=aE h;clear h;let⟨⟨e,as,bs⟩,q,h⟩:=hh;let⟨p,rfl⟩:=Nx q;let⟨h1,h2,h3⟩:=gn h;let⟨tq,pq,jq⟩:=sT t' h1;let⟨ta,pa,ja⟩:=sB a h2;let⟨tb,pb,jb⟩:=sB b h3;exact⟨_,λZ E=>Ou (pq Z E.e) (pa Z E) (pb Z E),ab6 jq ja jb⟩
 |.fo i g b,sc,N,st,h=>by
  let hh:=aE h;clear h;let⟨⟨tg,it,body⟩,q,h⟩:=hh;let⟨p,rfl⟩:=Ny q;let⟨h1,h2,h3,h4⟩:=gp h;let⟨ti,pi,ji⟩:=sI i h1;let⟨RZ,pg,jg⟩:=sG g h3;let⟨tb,pb,jb⟩:=sB b h4;exact⟨_,λZ E=>@Nb _ _ _ _ _ _ _ _ E.po E.e.calm (pi Z tg E.e id) (pg Z E) (pb Z E) (ny h2),aah ji jg jb⟩
 |.fk k g b,sc,N,st,h=>by
  let hh:=aE h;clear h;let⟨⟨tg,it,body⟩,q,h⟩:=hh;let⟨p,rfl⟩:=Ny q;let⟨h2,h5,h6,h7⟩:=gp h;let⟨RZ,pg,jg⟩:=sG g h6;let⟨tb,pb,jb⟩:=sB b h7;exact⟨_,λZ E=>Yb (@Nb _ _ _ _ _ _ _ _ E.po E.e.calm (Yj (sV h5 Z E.e)) (pg Z E) (pb Z E) (ny h2)),Yl (i:=k) jg jb⟩
 |.wh t' b,sc,N,st,h=>by
  let hh:=aE h;clear h;let⟨⟨e,body⟩,q,h⟩:=hh;let⟨p,rfl⟩:=aaY q;let⟨h1,h2⟩:=dG h;let⟨tq,pq,jq⟩:=sT t' h1;let⟨tb,pb,jb⟩:=sB b h2;exact⟨_,λZ E=>Wj E.po (pq Z E.e) (pb Z E),V1 jq jb⟩
 |.fz k s,sc,N,st,h=>by
  let⟨ts,ps,js⟩:=sS s (st:=st) h;exact⟨_,ps,aad js⟩
theorem sB:∀(b:B) {sc:Scope}{N:Qjz}{ss:List Stmt},kB c lv b sc N ss=true→∃ts,(∀Z,CS c lv K t va sc N Z→j8 Z ss ts)∧JS K ts (eB t b)
 |.n,_,_,ss,h=>by
  cases fN.mp h;exact⟨_,λ_ _=>Lw,Xx⟩
 |.o s,_,_,ss,h=>by
  let hh:=aE h;clear h;let⟨st,q,h⟩:=hh;cases iU q;let⟨ts,ps,js⟩:=sS s h;exact⟨_,λZ E=>Lx (ps Z E),js⟩
 |.c s b,_,_,ss,h=>by
  let hh:=aE h;clear h;let⟨⟨st,r⟩,q,h⟩:=hh;cases jQ q;let⟨h1,h2⟩:=dG h;let⟨ts,ps,js⟩:=sS s h1;let⟨tb,pb,jb⟩:=sB b h2;exact⟨_,λZ E=>yi (ps Z E) (pb Z E),Z5 js jb⟩
 |.u i x q r cs b,sc,N,ss,h=>by
  let hh:=aE h;clear h;let⟨⟨s1,ss1⟩,w,h⟩:=hh;cases jQ w;let hh:=aE h;clear h;let⟨⟨s2,ss2⟩,w,h⟩:=hh;let w:ss1=_:=jQ w;subst w;let hh:=aE h;clear h;let⟨⟨y,e⟩,w,h⟩:=hh;let⟨py,pos,w⟩:=q8 w;let w:s1=_:=w;subst w;let hh:=aE h;clear h;let⟨⟨ce,as,bs⟩,w,h⟩:=hh;let⟨p,w⟩:=Nx w;let w:s2=_:=w;subst w;let hh:=aE h;clear h;let⟨st,w,h⟩:=hh;let w:as=_:=iU w;subst w;let hh:=aE h;clear h;let⟨rs,w,h⟩:=hh;let⟨h0,h5,h6,h7,h8⟩:=qz h;let⟨h1,h2,h3,h4⟩:=gp h0;let h7:bs=[]:=fN.mp h7;subst h7;let hh:=aE h6;clear h6;let⟨o,v,h6⟩:=hh;let⟨p',rfl⟩:=yR v;let hh:=aE h6;clear h6;let⟨e',rfl,h6⟩:=hh;let⟨te,pe,je⟩:=sX x h4;let⟨tq,pq,jq⟩:=sT q h5;let⟨tr,pr,jr⟩:=sX r h6;let⟨tb,pb,jb⟩:=sB b h8;let⟨tcs,pc,jc⟩:=Pu cs w;exact⟨_,λZ E=>yi (sf E (bt h1) h2 (pe Z E.e) (nP h3)) (yi (Ou (pq Z E.e) (Lx (yM (pr Z E.e))) Lw) (pc Z tb E (pb Z E))),acj je jq jr jc jb⟩
end
end
end C
namespace C
open PySem PySem.Spec L2 J My
def iV(P:Program)(w:World)(K:Qzk)(mg:Str→Option Value)(base:Heap)(fs:List Fi)(t:List FT):Prop :=
 ∀(i:Nat) fi,fs[i]?=some fi→∃F,t[i]?=some F∧lV P w K mg base fi F
structure Bt (K:Qzk)(mg:Str→Option Value)(x:Str)(st:Stmt)(ps:Qjz)(df:Option Int)(f:Addr)(fd:FuncData):Prop where
 mg:mg x=some (.ref f)
 fn:zN K x st f fd
 bd:Binds K fd ps []
 A5:∀n,df=some n→∃t,Binds K fd ps [.int n t]
def kF(c:Cf)(lv:Nat)(N ps:Qjz)(st:Stmt)(b:B):Bool :=
 decide ((cy st).kind=.function∧(cy st).isCoroutine=false∧(cy st).isGenerator=false∧N.Nodup∧N.take ps.length=ps ∧
  (∀x∈ps,(cy st).names.lookup x=some .local∨(cy st).names.lookup x=some .cell)∧(∀y∈(cy st).names,y.2≠.free))&&kB c lv b (cy st) N (fC st)
section
variable {P:Program}{w:World}{K:Qzk}{mg:Str→Option Value}{base:Heap}{t:List FT}{va:List V}
def iV.nil:iV P w K mg base [] t:=λi fi h=>by simp at h
def iV.cons{fs:List Fi}{f:Fi}{F:FT}(h:iV P w K mg base fs t)(q:lV P w K mg base f F):iV P w K mg base (f::fs) (F::t)
 |0,fi,e=>by cases e;exact⟨F,rfl,q⟩
 |i+1,fi,e=>h i fi e
def ctx{bs:List String}{gs:List (Str×Gv)}{fs:List Fi}{lv:Nat}{N ps:Qjz}{st:Stmt}{b:B}{qual:Str}{f:Addr}{cd:Value}{A:Around}{outer:List Env}{s:Shared}{H:Hp}{E:XK}(h:iV P w K mg base fs t)(hb:∀x∈bs,mg (Str.ofString x)=none)(hg:GV K mg va gs)(k:kF ⟨bs,gs,fs⟩ lv N ps st b=true)
  (hr:fh lv (A.deeper (PyProof.Rows.envOfC qual (cy st) s.heap.objs.size f cd))):CS ⟨bs,gs,fs⟩ lv K t va (cy st) N ((nS m7 P w K mg base N qual (cy st) f cd A outer s H E).qg):=by
 let⟨k1,k2⟩:=dG k;let⟨h1,h2,h3,h4,h5,h6,h7⟩:=bt k1;exact⟨⟨rfl,rfl,rfl,rfl,hr,hb,hg,h⟩,h4,λ_=>rfl,PassesOwn.never,h1⟩
def zT{c:Cf}{lv:Nat}{N ps:Qjz}{st:Stmt}{b:B}(k:kF c lv N ps st b=true):uD N ps (cy st):=by
 let⟨h1,h2,h3,h4,h5,h6,h7⟩:=bt (dG k).1;exact⟨h1,h2,h3,h4,h5,h6,h7⟩
def acu{bs:List String}{gs:List (Str×Gv)}{fs:List Fi}{lv:Nat}{N ps:Qjz}{x:Str}{st:Stmt}{b:B}{f:Addr}{fd:FuncData}(h:iV P w K mg base fs t)(hb:∀x∈bs,mg (Str.ofString x)=none)(hg:GV K mg va gs){df:Option Int}(Df:Bt K mg x st ps df f fd)(k:kF ⟨bs,gs,fs⟩ lv N ps st b=true) :
  lV P w K mg base ⟨x,ps.length,lv+1,none,df⟩ (.p (fn N.length (eB t b))):=by
 refine⟨rfl,f,fd,ps,?_,Df.mg,Df.fn.kp,Df.bd,Df.A5⟩;refine Df.fn.ok (zT k) (λvs H Q E h=>h.1) (λbX A outer s H vs Q E hr q=>?_);let⟨ts,p1,p2⟩:=sB (t:=t) (va:=va) (K:=K) b (dG k).2;exact⟨ts,(p1 _ (ctx h hb hg k hr)).go,Li p2 q⟩
def acv{bs:List String}{gs:List (Str×Gv)}{fs:List Fi}{lv:Nat}{N ps:Qjz}{x:Str}{st:Stmt}{b:B}{f:Addr}{fd:FuncData}(io:Qxj)(hn:io≠[])(h:iV P w K mg base fs t)(hb:∀x∈bs,mg (Str.ofString x)=none)(hg:GV K mg va gs){df:Option Int}(Df:Bt K mg x st ps df f fd)(k:kF ⟨bs,gs,fs⟩ lv N ps st b=true) :
  lV P w K mg base ⟨x,ps.length,lv+1,some io,df⟩ (.io io (rX N.length io (eB t b))):=by
 refine⟨⟨rfl,hn⟩,f,fd,ps,?_,Df.mg,Df.fn.kp,Df.bd,Df.A5⟩;refine Df.fn.ok (zT k) (λvs H Q E h=>h.1) (λbX A outer s H vs Q E hr q=>?_);let⟨ts,p1,p2⟩:=sB (t:=t) (va:=va) (K:=K) b (dG k).2;exact⟨ts,(p1 _ (ctx h hb hg k hr)).go,Vb p2 q⟩
def acw{bs:List String}{gs:List (Str×Gv)}{fs:List Fi}{lv:Nat}{N ps:Qjz}{x:Str}{st:Stmt}{b:B}{f:Addr}{fd:FuncData}(h:iV P w K mg base fs t)(hb:∀x∈bs,mg (Str.ofString x)=none)(hg:GV K mg va gs){df:Option Int}(Df:Bt K mg x st ps df f fd)(k:kF ⟨bs,gs,fs⟩ lv N ps st b=true) :
  lV P w K mg base ⟨x,ps.length,lv+1,some [],df⟩ (.oo (lF N.length (eB t b))):=by
 refine⟨rfl,f,fd,ps,?_,Df.mg,Df.fn.kp,Df.bd,Df.A5⟩;refine Df.fn.ok (zT k) (λvs H Q E h=>h.1) (λbX A outer s H vs Q E hr q=>?_);let⟨ts,p1,p2⟩:=sB (t:=t) (va:=va) (K:=K) b (dG k).2;exact⟨ts,(p1 _ (ctx h hb hg k hr)).go,Vf p2 q⟩
end
structure Dd where
 nm:Str
 st:Stmt
 ps:Qjz
 N:Qjz
 lv:Nat
 io:Option (Qxj)
 b:B
 df:Option Int:=none
def pV(t:List FT)(d:Dd):FT:=match d.io with
 |none=>.p (fn d.N.length (eB t d.b))
 |some []=>.oo (lF d.N.length (eB t d.b))
 |some (i::io)=>.io (i::io) (rX d.N.length (i::io) (eB t d.b))
abbrev Fp(d:Dd):Fi:=⟨d.nm,d.ps.length,d.lv+1,d.io,d.df⟩
def tab:List Dd→List FT
 |[]=>[]
 |d::ds=>pV (tab ds) d::tab ds
def zp(bs:List String)(gs:List (Str×Gv)):List Dd→Bool
 |[]=>true
 |d::ds=>kF ⟨bs,gs,ds.map Fp⟩ d.lv d.N d.ps d.st d.b&&zp bs gs ds
def BA(d:Str)(s:Stmt)(ps:Qjz):Prop:=∀(kV doc pm:Value) (an:Qxx) (bX ct:Value) (us:Qxz),us.length=ps.length→bindArgs (PySem.W.fnOf d d (gu s) (fC s) (cy s) .none kV doc pm an bX ct) ⟨us,[]⟩=pure (ps.zip us)
def fT{d:Str}{s:Stmt}{p0:Str}(h:∀k o p n c t u0,bindArgs (PySem.W.fnOf d d (gu s) (fC s) (cy s) .none k o p n c t) ⟨[u0],[]⟩=pure (List.zip [p0] [u0])):BA d s [p0]:=by
 intro _ _ _ _ _ _ us hl;obtain _|⟨_,us⟩:=us
 ·cases hl
 obtain _|_:=us
 ·exact h _ _ _ _ _ _ _
 ·simp at hl
def fJ{d:Str}{s:Stmt}{p0 p1:Str}(h:∀k o p n c t u0 u1,bindArgs (PySem.W.fnOf d d (gu s) (fC s) (cy s) .none k o p n c t) ⟨[u0,u1],[]⟩=pure (List.zip [p0,p1] [u0,u1])):BA d s [p0,p1]:=by
 intro _ _ _ _ _ _ us hl;obtain _|⟨_,us⟩:=us
 ·cases hl
 obtain _|⟨_,us⟩:=us
 ·cases hl
 obtain _|_:=us
 ·exact h _ _ _ _ _ _ _ _
 ·simp at hl
def R0{d:Str}{s:Stmt}{p0 p1 p2:Str}(h:∀k o p n c t u0 u1 u2,bindArgs (PySem.W.fnOf d d (gu s) (fC s) (cy s) .none k o p n c t) ⟨[u0,u1,u2],[]⟩=pure (List.zip [p0,p1,p2] [u0,u1,u2])):BA d s [p0,p1,p2]:=by
 intro _ _ _ _ _ _ us hl;obtain _|⟨_,us⟩:=us
 ·cases hl
 obtain _|⟨_,us⟩:=us
 ·cases hl
 obtain _|⟨_,us⟩:=us
 ·cases hl
 obtain _|_:=us
 ·exact h _ _ _ _ _ _ _ _ _
 ·simp at hl
def Bu{d:Str}{s:Stmt}{p0 p1 p2 p3:Str}(h:∀k o p n c t u0 u1 u2 u3,bindArgs (PySem.W.fnOf d d (gu s) (fC s) (cy s) .none k o p n c t) ⟨[u0,u1,u2,u3],[]⟩=pure (List.zip [p0,p1,p2,p3] [u0,u1,u2,u3])):BA d s [p0,p1,p2,p3]:=by
 intro _ _ _ _ _ _ us hl;obtain _|⟨_,us⟩:=us
 ·cases hl
 obtain _|⟨_,us⟩:=us
 ·cases hl
 obtain _|⟨_,us⟩:=us
 ·cases hl
 obtain _|⟨_,us⟩:=us
 ·cases hl
 obtain _|_:=us
 ·exact h _ _ _ _ _ _ _ _ _ _
 ·simp at hl
def BA5{d:Str}{s:Stmt}{p0 p1 p2 p3 p4:Str}(h:∀k o p n c t u0 u1 u2 u3 u4,bindArgs (PySem.W.fnOf d d (gu s) (fC s) (cy s) .none k o p n c t) ⟨[u0,u1,u2,u3,u4],[]⟩=pure (List.zip [p0,p1,p2,p3,p4] [u0,u1,u2,u3,u4])):BA d s [p0,p1,p2,p3,p4]:=by
 intro _ _ _ _ _ _ us hl;obtain _|⟨_,us⟩:=us
 ·cases hl
 obtain _|⟨_,us⟩:=us
 ·cases hl
 obtain _|⟨_,us⟩:=us
 ·cases hl
 obtain _|⟨_,us⟩:=us
 ·cases hl
 obtain _|⟨_,us⟩:=us
 ·cases hl
 obtain _|_:=us
 ·exact h _ _ _ _ _ _ _ _ _ _ _
 ·simp at hl
def BA6{d:Str}{s:Stmt}{p0 p1 p2 p3 p4 p5:Str}(h:∀k o p n c t u0 u1 u2 u3 u4 u5,bindArgs (PySem.W.fnOf d d (gu s) (fC s) (cy s) .none k o p n c t) ⟨[u0,u1,u2,u3,u4,u5],[]⟩=pure (List.zip [p0,p1,p2,p3,p4,p5] [u0,u1,u2,u3,u4,u5])):BA d s [p0,p1,p2,p3,p4,p5]:=by
 intro _ _ _ _ _ _ us hl;obtain _|⟨_,us⟩:=us
 ·cases hl
 obtain _|⟨_,us⟩:=us
 ·cases hl
 obtain _|⟨_,us⟩:=us
 ·cases hl
 obtain _|⟨_,us⟩:=us
 ·cases hl
 obtain _|⟨_,us⟩:=us
 ·cases hl
 obtain _|⟨_,us⟩:=us
 ·cases hl
 obtain _|_:=us
 ·exact h _ _ _ _ _ _ _ _ _ _ _ _
 ·simp at hl
def BAd(d:Str)(s:Stmt)(ps:Qjz)(n:Int):Prop:=∀(K:Qzk) (a:Addr) (tk:Tok) (o:Value) (p:Qxx) (k:Nat) (sl:Array (Option Value)) (kV doc pm:Value) (an:Qxx) (bX ct:Value),K.lookup a=some ⟨o,p,.seq #[.int n tk] k,sl⟩ →
 Binds K (PySem.W.fnOf d d (gu s) (fC s) (cy s) (.ref a) kV doc pm an bX ct) ps []∧Binds K (PySem.W.fnOf d d (gu s) (fC s) (cy s) (.ref a) kV doc pm an bX ct) ps [.int n tk]
abbrev R6(d:Str)(s:Stmt)(ps:Qjz):Option Int→Prop
 |none=>BA d s ps
 |some n=>BAd d s ps n
def Bv:List Dd→Prop
 |[]=>True
 |d::ds=>R6 d.nm d.st d.ps d.df∧Bv ds
def R7(K:Qzk)(d:Str)(s:Stmt)(dV:Value):Prop:=∃(f:Addr) (oc:Value) (od:Qxx) (kV dc pm:Value) (an:Qxx) (cd ct:Value) (sl:Array (Option Value)),
 PySem.W.nsIn K mainGlobals d=some (some (.ref f))∧K.lookup f=some ⟨oc,od,.func (PySem.W.fnOf d d (gu s) (fC s) (cy s) dV kV dc pm an cd ct),sl⟩∧PySem.W.codeIn K cd d=true∧PySem.W.keepIn K (.ref f)=true
abbrev DE(K:Qzk)(d:Str)(s:Stmt):Option Int→Prop
 |none=>R7 K d s .none
 |some n=>∃(a:Addr) (tk:Tok) (o:Value) (p:Qxx) (k:Nat) (sl:Array (Option Value)),R7 K d s (.ref a)∧K.lookup a=some ⟨o,p,.seq #[.int n tk] k,sl⟩
def ad4{K:Qzk}{d:Str}{s:Stmt}{f:Addr}{oc:Value}{od:Qxx}{kV dc pm:Value}{an:Qxx}{cd ct:Value}{sl:Array (Option Value)}(a:PySem.W.nsIn K mainGlobals d=some (some (.ref f)))(l:K.lookup f=some ⟨oc,od,.func (PySem.W.fnOf d d (gu s) (fC s) (cy s) .none kV dc pm an cd ct),sl⟩)(c:PySem.W.codeIn K cd d=true)(k:PySem.W.keepIn K (.ref f)=true):DE K d s none :=
 ⟨f,oc,od,kV,dc,pm,an,cd,ct,sl,a,l,c,k⟩
abbrev Bw(K:Qzk):List Dd→Prop
 |[]=>True
 |d::ds=>DE K d.nm d.st d.df∧Bw K ds
abbrev Bx(K:Qzk):List String→Prop
 |[]=>True
 |b::bs=>PySem.W.nsIn K mainGlobals (Str.ofString b)=some none∧Bx K bs
def GE(K:Qzk)(x:Str):Gv→Prop
 |.s y=>∃tk,PySem.W.nsIn K mainGlobals x=some (some (.str y tk))
 |.t l=>∃(a:Addr) (it:Array Value) (n:Nat) (sl:Array (Option Value)),PySem.W.nsIn K mainGlobals x=some (some (.ref a))∧K.lookup a=some ⟨.type "tuple",none,.seq it n,sl⟩∧it.toList.map rH=l.map (λy=>some (V.str y))∧4≤l.length∧l.length≤1000
abbrev By(K:Qzk):List (Str×Gv)→Prop
 |[]=>True
 |g::gs=>GE K g.1 g.2∧By K gs
section
variable {P:Program}{w:World}{K:Qzk}{mg:Str→Option Value}{base:Heap}
theorem Nz{h:Heap}(X:K.In h)(G:h.Ns mainGlobals mg):∀{bs:List String},Bx K bs→∀x∈bs,mg (Str.ofString x)=none
 |[],_,_,m=>nomatch m
 |b::bs,q,x,m=>by
  rcases dN.mp m with rfl|m
  ·exact PySem.W.mg_none_of X G q.1
  ·exact Nz X G q.2 x m
theorem OJ{h:Heap}(X:K.In h)(G:h.Ns mainGlobals mg):∀{gs:List (Str×Gv)},By K gs→∃va,GV K mg va gs
  |[],_=>⟨[],λi g e=>by simp at e⟩
  | (x,g)::gs,q=>by
    let⟨va,r⟩:=OJ X G q.2;let one:∃v u,mg x=some u∧RelV v u∧JT K (tC v) (jC g.d):=by
      cases g with
      |s y =>
        let⟨tk,e⟩:=q.1;exact⟨.str y,_,vQ X G e,⟨_,rfl⟩,rP rfl⟩
      |t l =>
        let⟨a,it,n,sl,e,lk,m,hl⟩:=q.1;exact⟨.ref a,_,vQ X G e,rfl,aaz (X3 lk m hl) λ_ _=>Jb l⟩
    let⟨v,u,h1,h2,h3⟩:=one;refine⟨v::va,λi g' e=>?_⟩;cases i with
    |zero=>cases e;exact⟨v,u,rfl,h1,h2,h3⟩
    |succ i=>exact r i g' e
def acx{h:Heap}{d:Str}{s:Stmt}{ps:Qjz}{df:Option Int}(X:K.In h)(G:h.Ns mainGlobals mg)(e:DE K d s df)(b:R6 d s ps df):∃f fd,Bt K mg d s ps df f fd:=by
 cases df with
 |none =>
  let⟨f,oc,od,kV,dc,pm,an,cd,ct,sl,q1,q2,q3,q4⟩:=e;exact⟨f,_,vQ X G q1,⟨⟨_,_,_,_,_,_,_,_,_,_,rfl,q2,q3⟩,q4⟩,(MK q2 q3 q4).binds b,λn z=>nomatch z⟩
 |some n =>
  let⟨a,tk,o,p,k,sD,⟨f,oc,od,kV,dc,pm,an,cd,ct,sl,q1,q2,q3,q4⟩,e⟩:=e;let z:=b K a tk o p k sD kV dc pm an cd ct e;exact⟨f,_,vQ X G q1,⟨⟨_,_,_,_,_,_,_,_,_,_,rfl,q2,q3⟩,q4⟩,z.1,λm w=>by cases w;exact⟨tk,z.2⟩⟩
theorem OL{h:Heap}{bs:List String}{gs:List (Str×Gv)}{va:List V}(X:K.In h)(G:h.Ns mainGlobals mg)(hb:∀x∈bs,mg (Str.ofString x)=none)(hg:GV K mg va gs):∀{ds:List Dd},Bw K ds→Bv ds→zp bs gs ds=true→iV P w K mg base (ds.map Fp) (tab ds)
 |[],_,_,_=>iV.nil
 |d::ds,q,b,k=>by
  let⟨k1,k2⟩:=dG k;let r:=OL X G hb hg q.2 b.2 k2;let⟨f,fd,D⟩:=acx X G q.1 b.1;refine iV.cons r ?_;let⟨nm,st,ps,N,lv,io,bd,df⟩:=d;cases io with
  |none=>exact acu r hb hg D k1
  |some io=>cases io with
   |nil=>exact acw r hb hg D k1
   |cons i io=>exact acv (i::io) (List.cons_ne_nil _ _) r hb hg D k1
def bV{d:Dd}{ds:List Dd}{t:List FT}{g:Qqq}{F:Qqk}(e:tab ds=t)(h:d.io=none)(q:eB t d.b=g)(r:fn d.N.length g=F):tab (d::ds)=.p F::t:=by
 subst e q r;show pV (tab ds) d::tab ds=_;unfold pV;rw[h]
def aa1{d:Dd}{ds:List Dd}{t:List FT}{g:Qqq}{i:Nat}{io:Qxj}{F:Qzz→Option (M×D×Qzz)}(e:tab ds=t)(h:d.io=some (i::io))(q:eB t d.b=g)(r:rX d.N.length (i::io) g=F):tab (d::ds)=.io (i::io) F::t:=by
 subst e q r;show pV (tab ds) d::tab ds=_;unfold pV;rw[h]
def D3{d:Dd}{ds:List Dd}{t:List FT}{g:Qqq}{F:Qzz→Option D}(e:tab ds=t)(h:d.io=some [])(q:eB t d.b=g)(r:lF d.N.length g=F):tab (d::ds)=.oo F::t:=by
 subst e q r;show pV (tab ds) d::tab ds=_;unfold pV;rw[h]
def acy {h:Heap}{bs:List String}{gs:List (Str×Gv)}{ds:List Dd}{st:Stmt}{N:Qjz}{lv:Nat}{b:B}{t:List FT}{F:Qqk}{x:Str}{fa:Addr} (X:K.In h) (G:h.Ns mainGlobals mg) (Hr:mg "law" = some (.ref fa)) (hb:Bx K bs) (hg:By K gs) (q:Bw K (⟨"law",st,[x],N,lv,none,b,none⟩::ds)) (ba:Bv (⟨"law",st,[x],N,lv,none,b,none⟩::ds)) (k:zp bs gs (⟨"law",st,[x],N,lv,none,b,none⟩::ds)=true)
  (e:tab (⟨"law",st,[x],N,lv,none,b,none⟩::ds)=.p F::t) (hs:∀(kV doc pm:Value) (an:Qxx) (bX ct:Value) (s:Shared) (v:Value),BindsTo s (PySem.W.fnOf "law" "law" (gu st) (fC st) (cy st) .none kV doc pm an bX ct) ⟨[v],[]⟩ [(x,v)]) :
  ∃fd:FuncData,(∀(s:Shared) (v:Value),BindsTo s fd ⟨[v],[]⟩ [(x,v)])∧∀base:Heap,K.In base→base.Ns mainGlobals mg→mK P w K mg base m7 (lv+1) fa fd [x] (qm K 1 F):=by
 let⟨k1,k2⟩:=dG k;let hb:=Nz X G hb;let⟨va,hg⟩:=OJ X G hg;let⟨⟨f,oc,od,kV,dc,pm,an,cd,ct,sl,q1,q2,q3,q4⟩,qs⟩:=q;let ef:=Hr.symm.trans (vQ X G q1);cases ef;refine⟨_,λs v=>hs kV dc pm an cd ct s v,λbase _ _=>?_⟩;let r:iV P w K mg base (ds.map Fp) (tab ds):=OL X G hb hg qs ba.2 k2;let ht:fn N.length (eB (tab ds) b)=F:=by
  let e:FT.p (fn N.length (eB (tab ds) b))::tab ds=.p F::t:=e;cases e;rfl
 let fk:=MK (x := "law") (qual := "law") (st:=st) q2 q3 q4;refine fk.ok (zT k1) (λvs H Q E h=>h.1) (λbX A outer s H vs Q E hr q=>?_);let⟨ts,p1,p2⟩:=sB (t:=tab ds) (va:=va) (K:=K) b (dG k1).2;rw[←ht]at q;exact⟨ts,(p1 _ (ctx r hb hg k1 hr)).go,Li p2 q⟩
end
end C
namespace aN
open PySem PySem.Spec L2 My J
abbrev top(i:Nat):PySem.Stmt:=PySem.Challenge.pw_lazyhoist_k33_whole_standing_or_a_way.main.body.getD i (.Pass ⟨0,0,0,0⟩)
abbrev bs:List String:=["bool", "dict", "enumerate", "int", "isinstance", "len", "list", "max", "range", "set", "sorted", "sum"]
abbrev gs:List (Str×C.Gv):=[]
abbrev t0:List C.FT:=[]
abbrev R8:List C.Dd:=[]
def e0:C.tab R8=t0:=rfl
def HX:Qqq :=
 (aq (aM (jB (ae aP (ae au (jV 0) (jC (.int 0))) (jC (.str "reckon"))))
  (aF (aY (ag (ae au (jV 0) (jC (.int 2))) (ag (ae au (jV 0) (jC (.int 3))) (ag (ae au (jV 0) (jC (.int 4))) ai)))))
  aR)
 (aF (jC .non)))
def oM:Qqk:=fn 1 HX
def d1:C.Dd:=⟨"reckoning_of",top 1,["row"],["row"],0,none,(.c (.ie (.c .eq (.ix (.v 0) (.ki 0)) (.ks "reckon")) (.o (.l (.rt (.tu (.c (.ix (.v 0) (.ki 2)) (.c (.ix (.v 0) (.ki 3)) (.c (.ix (.v 0) (.ki 4)) .n))))))) .n) (.o (.l (.rt .kn)))),none⟩
def R9:List C.Dd:=d1::R8
def t1:List C.FT:=.p oM::t0
def e1:C.tab R9=t1:=C.bV e0 rfl rfl rfl
def aa2:Qqq :=
 (aq (aM (cI (jB (ae aP (ae au (jV 0) (jC (.int 0))) (jC (.str "reckon")))) (jB (ae aP (ae au (jV 0) (jC (.int 0))) (jC (.str "copy")))))
  (aF (ae au (jV 0) (jC (.int 1))))
  aR)
 (aF (jC .non)))
def yS:Qqk:=fn 1 aa2
def d2:C.Dd:=⟨"sets",top 2,["row"],["row"],0,none,(.c (.ie (.or (.c .eq (.ix (.v 0) (.ki 0)) (.ks "reckon")) (.c .eq (.ix (.v 0) (.ki 0)) (.ks "copy"))) (.o (.l (.rt (.ix (.v 0) (.ki 1))))) .n) (.o (.l (.rt .kn)))),none⟩
def Sb:List C.Dd:=d2::R9
def t2:List C.FT:=.p yS::t1
def e2:C.tab Sb=t2:=C.bV e1 rfl rfl rfl
def JN:Qqq :=
 (aq (ax 2 (aC yS (ag (jV 0) ai)))
 (aF (gM (ae lu (jV 2) (jC .non)) (lQ (ae aP (jV 2) (ae au (jV 1) (jC (.int 1)))) (ae aP (jV 2) (ae au (jV 1) (jC (.int 2))))))))
def mh:Qqk:=fn 3 JN
def d3:C.Dd:=⟨"changes",top 3,["row", "reckoning"],["row", "reckoning", "name"],1,none,(.c (.l (.st 2 (.ca 0 (.c (.v 0) .n)))) (.o (.l (.rt (.an (.co .qw (.v 2) .kn) (.or (.co .eq (.v 2) (.ix (.v 1) (.ki 1))) (.co .eq (.v 2) (.ix (.v 1) (.ki 2))))))))),none⟩
def Sd:List C.Dd:=d3::Sb
def t3:List C.FT:=.p mh::t2
def e3:C.tab Sd=t3:=C.bV e2 rfl rfl rfl
def IA:Qqq :=
 (aq (ax 2 (ae au (jV 0) (jV 1)))
 (aq (aM (jB (ae aP (ae au (jV 2) (jC (.int 0))) (jC (.str "end"))))
  (aF (bL ai))
  aR)
 (aq (aM (jB (ae aP (ae au (jV 2) (jC (.int 0))) (jC (.str "go"))))
  (aF (bL (ag (ae au (jV 2) (jC (.int 1))) ai)))
  aR)
 (aq (aM (jB (ae aP (ae au (jV 2) (jC (.int 0))) (jC (.str "part"))))
  (aF (bL (ag (ae bW (jV 1) (jC (.int 1))) (ag (ae au (jV 2) (jC (.int 2))) ai))))
  aR)
 (aF (bL (ag (ae bW (jV 1) (jC (.int 1))) ai)))))))
def tV:Qqk:=fn 3 IA
def d4:C.Dd:=⟨"followers",top 5,["program", "n"],["program", "n", "row"],0,none,(.c (.l (.st 2 (.ix (.v 0) (.v 1)))) (.c (.ie (.c .eq (.ix (.v 2) (.ki 0)) (.ks "end")) (.o (.l (.rt (.li .n)))) .n) (.c (.ie (.c .eq (.ix (.v 2) (.ki 0)) (.ks "go")) (.o (.l (.rt (.li (.c (.ix (.v 2) (.ki 1)) .n))))) .n) (.c (.ie (.c .eq (.ix (.v 2) (.ki 0)) (.ks "part")) (.o (.l (.rt (.li (.c (.bo .add (.v 1) (.ki 1)) (.c (.ix (.v 2) (.ki 2)) .n)))))) .n) (.o (.l (.rt (.li (.c (.bo .add (.v 1) (.ki 1)) .n))))))))),none⟩
def Se:List C.Dd:=d4::Sd
def t4:List C.FT:=.p tV::t3
def e4:C.tab Se=t4:=C.bV e3 rfl rfl rfl
def HS:Qqq :=
 (aF (cW (cq (ag (aL bJ (ag (jV 0) ai)) ai)) [0] fu (aC tV (ag (jV 1) (ag (jV 0) ai)))))
def oK:Qqk:=fn 1 HS
def d5:C.Dd:=⟨"all_followers",top 6,["program"],["program"],1,none,(.o (.l (.rt (.cp (.r1 (.c (.fb .len (.c (.v 0) .n)) .n)) [0] .y (.ca 0 (.c (.v 1) (.c (.v 0) .n))))))),none⟩
def Sf:List C.Dd:=d5::Se
def t5:List C.FT:=.p oK::t4
def e5:C.tab Sf=t5:=C.bV e4 rfl rfl rfl
def tY:Qqq :=
 (cE 1 (aY (ag (jV 2) (ag (jV 4) ai))))
def CM:Qqq :=
 (bT 3 (aU (bK (jV 3)) (gN 4)
  tY))
def Kt:Qqq :=
 (aq (ax 1 (bL (ag (aY (ag (cj fq (jC (.int 1))) (ag (jC (.int 0)) ai))) ai)))
 (aq (aU (gj (ag (aC oK (ag (jV 0) ai)) ai)) (gT 2 (bR (gN 2) (bR (gN 3) dX)))
  CM)
 (aF (jV 1))))
def yk:Qqk:=fn 5 Kt
def d6:C.Dd:=⟨"places",top 7,["program"],["program", "told", "n", "targets", "m"],2,none,(.c (.l (.st 1 (.li (.c (.tu (.c (.uo .neg (.ki 1)) (.c (.ki 0) .n))) .n)))) (.c (.fo (.en (.c (.ca 0 (.c (.v 0) .n)) .n)) (.t 2 (.c (.n 2) (.c (.n 3) .n))) (.o (.fz 3 (.fo (.l (.v 3)) (.n 4) (.o (.l (.ap 1 (.tu (.c (.v 2) (.c (.v 4) .n)))))))))) (.o (.l (.rt (.v 1)))))),none⟩
def Sg:List C.Dd:=d6::Sf
def t6:List C.FT:=.p yk::t5
def e6:C.tab Sg=t6:=C.bV e5 rfl rfl rfl
def xB:Qqq :=
 (aq (ax 3 (aC oM (ag (jV 2) ai)))
 (aM (jB (ae lu (jV 3) (jC .non)))
  (nL 1 (jV 3) (jC (.bl true)))
  aR))
def Ik:Qqq :=
 (aq (ax 1 vf)
 (aq (bT 0 (aU (bK (jV 0)) (gN 2)
  xB))
 (aF (aL uV (ag (jV 1) ai)))))
def oO:Qqk:=fn 4 Ik
def d7:C.Dd:=⟨"reckonings",top 8,["program"],["program", "told", "row", "reckoning"],1,none,(.c (.l (.st 1 .dT)) (.c (.fz 0 (.fo (.l (.v 0)) (.n 2) (.c (.l (.st 3 (.ca 5 (.c (.v 2) .n)))) (.o (.ie (.c .qw (.v 3) .kn) (.o (.l (.tp 1 (.v 3) (.kb true)))) .n))))) (.o (.l (.rt (.fb .zm (.c (.v 1) .n))))))),none⟩
def Sh:List C.Dd:=d7::Sg
def t7:List C.FT:=.p oO::t6
def e7:C.tab Sh=t7:=C.bV e6 rfl rfl rfl
def tZ:Qqq :=
 (zk 1 (jV 4) (jV 2))
def CN:Qqq :=
 (bT 3 (aU (bK (jV 3)) (gN 4)
  tZ))
def Ku:Qqq :=
 (aq (zj 1 (cq (ag (aL bJ (ag (jV 0) ai)) ai)))
 (aq (bT 0 (aU (gj (ag (jV 0) ai)) (gT 2 (bR (gN 2) (bR (gN 3) dX)))
  CN))
 (aF (jV 1))))
def uA:Qqk:=fn 5 Ku
def d8:C.Dd:=⟨"turned",top 9,["steps"],["steps", "back", "n", "targets", "m"],0,none,(.c (.l (.ne 1 (.r1 (.c (.fb .len (.c (.v 0) .n)) .n)))) (.c (.fz 0 (.fo (.en (.c (.v 0) .n)) (.t 2 (.c (.n 2) (.c (.n 3) .n))) (.o (.fz 3 (.fo (.l (.v 3)) (.n 4) (.o (.l (.na 1 (.v 4) (.v 2))))))))) (.o (.l (.rt (.v 1)))))),none⟩
def Si:List C.Dd:=d8::Sh
def t8:List C.FT:=.p uA::t7
def e8:C.tab Si=t8:=C.bV e7 rfl rfl rfl
def xY:Qqq :=
 (aM (jB (jV 3))
  (ax 1 (ae pN (jV 1) (ae pI (jC (.int 1)) (jV 2))))
  aR)
def JQ:Qqq :=
 (aq (ax 1 (jC (.int 0)))
 (aq (bT 0 (aU (gj (ag (jV 0) ai)) (gT 2 (bR (gN 2) (bR (gN 3) dX)))
  xY))
 (aF (jV 1))))
def ui:Qqk:=fn 4 JQ
def d9:C.Dd:=⟨"bits_of",top 11,["truths"],["truths", "bits", "k", "there"],0,none,(.c (.l (.st 1 (.ki 0))) (.c (.fz 0 (.fo (.en (.c (.v 0) .n)) (.t 2 (.c (.n 2) (.c (.n 3) .n))) (.o (.ie (.b (.v 3)) (.o (.l (.st 1 (.bo .bor (.v 1) (.bo .shl (.ki 1) (.v 2)))))) .n)))) (.o (.l (.rt (.v 1)))))),none⟩
def Sj:List C.Dd:=d9::Si
def t9:List C.FT:=.p ui::t8
def e9:C.tab Sj=t9:=C.bV e8 rfl rfl rfl
def IC:Qqq :=
 (aF (aC ui (ag (cW (bK (aC oO (ag (jV 0) ai))) [] fu (jC (.bl true))) ai)))
def tW:Qqk:=fn 1 IC
def Bz:C.Dd:=⟨"every_bit",top 12,["program"],["program"],2,none,(.o (.l (.rt (.ca 0 (.c (.cp (.l (.ca 2 (.c (.v 0) .n))) [] .y (.kb true)) .n))))),none⟩
def Pw:List C.Dd:=Bz::Sj
def Sl:List C.FT:=.p tW::t9
def e10:C.tab Pw=Sl:=C.bV e9 rfl rfl rfl
def xj:Qqq :=
 (nL 1 (jV 3) (ae pI (jC (.int 1)) (jV 2)))
def HV:Qqq :=
 (aq (ax 1 vf)
 (aq (aU (gj (ag (aC oO (ag (jV 0) ai)) ai)) (gT 2 (bR (gN 2) (bR (gN 3) dX)))
  xj)
 (aF (cW (bK (jV 0)) [1] fu (uU (jV 1) (aC oM (ag (jV 0) ai)) (jC (.int 0)))))))
def xv:Qqk:=fn 4 HV
def BD:C.Dd:=⟨"reckoned_bits",top 13,["program"],["program", "by_reckoning", "k", "reckoning"],2,none,(.c (.l (.st 1 .dT)) (.c (.fo (.en (.c (.ca 3 (.c (.v 0) .n)) .n)) (.t 2 (.c (.n 2) (.c (.n 3) .n))) (.o (.l (.tp 1 (.v 3) (.bo .shl (.ki 1) (.v 2)))))) (.o (.l (.rt (.cp (.l (.v 0)) [1] .y (.wL (.v 1) (.ca 9 (.c (.v 0) .n)) (.ki 0)))))))),none⟩
def Px:List C.Dd:=BD::Pw
def Sn:List C.FT:=.p xv::Sl
def e11:C.tab Px=Sn:=C.bV e10 rfl rfl rfl
def xn:Qqq :=
 (aq (ax 5 (aC yS (ag (jV 4) ai)))
 (aq (aM (jB (f6 true (jV 5) (jV 2)))
  (bT 1 (lA 2 (jV 5) (aC ui (ag (cW (bK (jV 1)) [4] fu (aC mh (ag (jV 1) (ag (jV 0) ai)))) ai))))
  aR)
 (cE 3 (pA (jV 2) (jV 5)))))
def HY:Qqq :=
 (aq (ax 1 (aC oO (ag (jV 0) ai)))
 (aq (ax 2 uT)
 (aq (ax 3 (bL ai))
 (aq (bT 0 (aU (bK (jV 0)) (gN 4)
  xn))
 (aF (jV 3))))))
def xC:Qqk:=fn 6 HY
def BE:C.Dd:=⟨"changed_bits",top 14,["program"],["program", "told", "by_name", "bits", "row", "name"],2,none,(.c (.l (.st 1 (.ca 4 (.c (.v 0) .n)))) (.c (.l (.st 2 .dK)) (.c (.l (.st 3 (.li .n))) (.c (.fz 0 (.fo (.l (.v 0)) (.n 4) (.c (.l (.st 5 (.ca 9 (.c (.v 4) .n)))) (.c (.ie (.d true (.v 5) (.v 2)) (.o (.fz 1 (.l (.dp 2 (.v 5) (.ca 2 (.c (.cp (.l (.v 1)) [4] .y (.ca 8 (.c (.v 1) (.c (.v 0) .n)))) .n)))))) .n) (.o (.l (.ap 3 (.dg (.v 2) (.v 5))))))))) (.o (.l (.rt (.v 3)))))))),none⟩
def Py:List C.Dd:=BE::Px
def Sq:List C.FT:=.p xC::Sn
def e12:C.tab Py=Sq:=C.bV e11 rfl rfl rfl
def ua:Qqq :=
 (aq (ax 7 (ae pN (ae au (jV 3) (jV 6)) (ae gX (ae au (jV 3) (jV 5)) (ae au (jV 2) (jV 6)))))
 (aM (jB (ae jI (jV 7) (ae au (jV 3) (jV 6))))
  (aq (fD 3 (jV 6) (jV 7))
 (cE 4 (jV 6)))
  aR))
def CP:Qqq :=
 (aq (vx 5 4)
 (aU (bK (ae au (jV 0) (jV 5))) (gN 6)
  ua))
def ub:Qqx :=
 (jB (ae i5 (aL bJ (ag (jV 4) ai)) (jC (.int 0))))
def Kv:Qqq :=
 (aq (ax 3 (aL ve (ag (jV 1) ai)))
 (aq (ax 4 (tf (ag (aL bJ (ag (jV 1) ai)) ai)))
 (aq (ip ub
  CP)
 (aF (jV 3)))))
def yl:Qqk:=fn 8 Kv
def BF:C.Dd:=⟨"spread",top 15,["steps", "made", "passed"],["steps", "made", "passed", "told", "waiting", "n", "m", "more"],0,none,(.c (.l (.st 3 (.fb .list (.c (.v 1) .n)))) (.c (.l (.st 4 (.lr (.c (.fb .len (.c (.v 1) .n)) .n)))) (.c (.wh (.c .gt (.fb .len (.c (.v 4) .n)) (.ki 0)) (.c (.l (.po 5 4)) (.o (.fo (.l (.ix (.v 0) (.v 5))) (.n 6) (.c (.l (.st 7 (.bo .bor (.ix (.v 3) (.v 6)) (.bo .band (.ix (.v 3) (.v 5)) (.ix (.v 2) (.v 6)))))) (.o (.ie (.c .ne (.v 7) (.ix (.v 3) (.v 6))) (.c (.l (.si 3 (.v 6) (.v 7))) (.o (.l (.ap 4 (.v 6))))) .n))))))) (.o (.l (.rt (.v 3))))))),none⟩
def Pz:List C.Dd:=BF::Py
def Sr:List C.FT:=.p yl::Sq
def e13:C.tab Pz=Sr:=C.bV e12 rfl rfl rfl
def qG:Qqq :=
 (aM (cP (jB (f6 true (jV 6) (jV 3))) (eO (jB (ae au (jV 2) (jV 6)))))
  (aq (lA 3 (jV 6) (jV 5))
 (cE 4 (jV 6)))
  aR)
def xD:Qqq :=
 (aU (bK (ae au (jV 0) (jV 5))) (gN 6)
  qG)
def Il:Qqq :=
 (aq (ax 4 (bL ai))
 (aq (bT 1 (aU (bK (jV 1)) (gN 5)
  xD))
 (aF (jV 4))))
def xQ:Qzz→Option (M×D×Qzz):=rX 7 [3] Il
def BG:C.Dd:=⟨"next_layer",top 18,["steps", "layer", "barred", "came_from"],["steps", "layer", "barred", "came_from", "fresh", "n", "m"],0,some [3],(.c (.l (.st 4 (.li .n))) (.c (.fz 1 (.fo (.l (.v 1)) (.n 5) (.o (.fo (.l (.ix (.v 0) (.v 5))) (.n 6) (.o (.ie (.an (.d true (.v 6) (.v 3)) (.nt (.b (.ix (.v 2) (.v 6))))) (.c (.l (.dp 3 (.v 6) (.v 5))) (.o (.l (.ap 4 (.v 6))))) .n)))))) (.o (.l (.rt (.v 4)))))),none⟩
def PB:List C.Dd:=BG::Pz
def Ss:List C.FT:=.io [3] xQ::Sr
def e14:C.tab PB=Ss:=C.aa1 e13 rfl rfl rfl
def CG:Qqq :=
 (aq (cE 2 (jV 1))
 (ax 1 (pA (jV 0) (jV 1))))
def tS:Qqx :=
 (jB (ae lu (jV 1) (jC .non)))
def Jf:Qqq :=
 (aq (ax 2 (bL ai))
 (aq (ip tS
  CG)
 (aq (rV 2)
 (aF (jV 2)))))
def x6:Qqk:=fn 3 Jf
def BH:C.Dd:=⟨"way_back",top 19,["came_from", "n"],["came_from", "n", "way"],0,none,(.c (.l (.st 2 (.li .n))) (.c (.wh (.c .qw (.v 1) .kn) (.c (.l (.ap 2 (.v 1))) (.o (.l (.st 1 (.dg (.v 0) (.v 1))))))) (.c (.l (.rv 2)) (.o (.l (.rt (.v 2))))))),none⟩
def PD:List C.Dd:=BH::PB
def Sv:List C.FT:=.p x6::Ss
def e15:C.tab PD=Sv:=C.bV e14 rfl rfl rfl
def tK:Qqq :=
 (aM (jB (ae au (jV 2) (jV 6)))
  (aF (aC x6 (ag (jV 4) (ag (jV 6) ai))))
  aR)
def xo:Qqq :=
 (aq (bT 5 (aU (bK (jV 5)) (gN 6)
  tK))
 (yL 5 [3] [4] [(0,0),(1,5),(2,3),(3,4)] xQ (ag (jV 0) (ag (jV 5) (ag (jV 3) (ag (jV 4) ai))))))
def tL:Qqx :=
 (jB (ae i5 (aL bJ (ag (jV 5) ai)) (jC (.int 0))))
def HZ:Qqq :=
 (aq (aM (jB (ae au (jV 3) (jV 1)))
  (aF (jC .non))
  aR)
 (aq (ax 4 (zi (jV 1) (jC .non)))
 (aq (ax 5 (bL (ag (jV 1) ai)))
 (aq (ip tL
  xo)
 (aF (jC .non))))))
def oN:Qqk:=fn 7 HZ
def BI:C.Dd:=⟨"shortest_way",top 17,["steps", "start", "goals", "barred"],["steps", "start", "goals", "barred", "came_from", "layer", "n"],1,none,(.c (.ie (.b (.ix (.v 3) (.v 1))) (.o (.l (.rt .kn))) .n) (.c (.l (.st 4 (.d1 (.v 1) .kn))) (.c (.l (.st 5 (.li (.c (.v 1) .n)))) (.c (.wh (.c .gt (.fb .len (.c (.v 5) .n)) (.ki 0)) (.c (.fz 5 (.fo (.l (.v 5)) (.n 6) (.o (.ie (.b (.ix (.v 2) (.v 6))) (.o (.l (.rt (.ca 0 (.c (.v 4) (.c (.v 6) .n)))))) .n)))) (.o (.l (.iS 5 1 [4] (.c (.v 0) (.c (.v 5) (.c (.v 3) (.c (.v 4) .n))))))))) (.o (.l (.rt .kn))))))),none⟩
def PF:List C.Dd:=BI::PD
def Sw:List C.FT:=.p oN::Sv
def e16:C.tab PF=Sw:=C.bV e15 rfl rfl rfl
def HM:Qqq :=
 (aq (ax 1 (aC tW (ag (jV 0) ai)))
 (aq (ax 2 (cW (bK (aC xv (ag (jV 0) ai))) [1] fu (ae gX (jV 1) (cj nV (jV 0)))))
 (aq (ax 3 (aC xC (ag (jV 0) ai)))
 (aq (fD 3 (jC (.int 0)) (ae pN (ae au (jV 3) (jC (.int 0))) (ae au (jV 2) (jC (.int 0)))))
 (aF (aC yl (ag (aC oK (ag (jV 0) ai)) (ag (jV 3) (ag (jV 2) ai)))))))))
def xk:Qqk:=fn 4 HM
def BJ:C.Dd:=⟨"unstanding_bits",top 22,["program"],["program", "every", "passed", "made"],3,none,(.c (.l (.st 1 (.ca 6 (.c (.v 0) .n)))) (.c (.l (.sc 2 (.l (.ca 5 (.c (.v 0) .n))) [1] .y (.bo .band (.v 1) (.uo .inv (.v 0))))) (.c (.l (.st 3 (.ca 4 (.c (.v 0) .n)))) (.c (.l (.si 3 (.ki 0) (.bo .bor (.ix (.v 3) (.ki 0)) (.ix (.v 2) (.ki 0))))) (.o (.l (.rt (.ca 3 (.c (.ca 11 (.c (.v 0) .n)) (.c (.v 3) (.c (.v 2) .n))))))))))),none⟩
def PH:List C.Dd:=BJ::PF
def Sx:List C.FT:=.p xk::Sw
def e17:C.tab PH=Sx:=C.bV e16 rfl rfl rfl
def xR:Qqq :=
 (nL 3 (jV 4) (rR (jB (ae aP (ae au (jV 4) (jC (.int 0))) (cj fq (jC (.int 1))))) (jC (.int 0)) (ae gX (jV 1) (cj nV (ae au (jV 2) (ae au (jV 4) (jC (.int 0))))))))
def Jg:Qqq :=
 (aq (ax 1 (aC tW (ag (jV 0) ai)))
 (aq (ax 2 (aC xk (ag (jV 0) ai)))
 (aq (ax 3 vf)
 (aq (aU (bK (aC yk (ag (jV 0) ai))) (gN 4)
  xR)
 (aF (jV 3))))))
def uc:Qqk:=fn 5 Jg
def BK:C.Dd:=⟨"standing",top 21,["program"],["program", "every", "missing", "told", "place"],4,none,(.c (.l (.st 1 (.ca 7 (.c (.v 0) .n)))) (.c (.l (.st 2 (.ca 0 (.c (.v 0) .n)))) (.c (.l (.st 3 .dT)) (.c (.fo (.l (.ca 11 (.c (.v 0) .n))) (.n 4) (.o (.l (.tp 3 (.v 4) (.ie (.c .eq (.ix (.v 4) (.ki 0)) (.uo .neg (.ki 1))) (.ki 0) (.bo .band (.v 1) (.uo .inv (.ix (.v 2) (.ix (.v 4) (.ki 0)))))))))) (.o (.l (.rt (.v 3)))))))),none⟩
def PJ:List C.Dd:=BK::PH
def Sy:List C.FT:=.p uc::Sx
def e18:C.tab PJ=Sy:=C.bV e17 rfl rfl rfl
def xE:Qqq :=
 (aq (ax 8 (ae vD (aC oM (ag (jV 7) ai)) (jV 3)))
 (aq (cE 4 (lQ (aC mh (ag (jV 7) (ag (jV 3) ai))) (gM (ae aP (jV 6) (jC (.int 0))) (j5 (jV 8)))))
 (cE 5 (gM (jV 8) (j5 (aC mh (ag (jV 7) (ag (jV 3) ai))))))))
def CH:Qqq :=
 (aq (aM (jB (ae aP (ae au (jV 2) (jC (.int 0))) (cj fq (jC (.int 1)))))
  (aF (bL ai))
  aR)
 (aq (ax 3 (ae au (aC oO (ag (jV 0) ai)) (jV 1)))
 (aq (ax 4 (bL ai))
 (aq (ax 5 (bL ai))
 (aq (bT 0 (aU (gj (ag (jV 0) ai)) (gT 2 (bR (gN 6) (bR (gN 7) dX)))
  xE))
 (aq (ax 9 (aC oN (ag (aC uA (ag (aC oK (ag (jV 0) ai)) ai)) (ag (ae au (jV 2) (jC (.int 0))) (ag (jV 4) (ag (jV 5) ai))))))
 (aq (aM (jB (ae zJ (jV 9) (jC .non)))
  (aF (jC .non))
  aR)
 (aq (rV 9)
 (aF (jV 9))))))))))
def oP:Qqk:=fn 10 CH
def BL:C.Dd:=⟨"unstanding",top 23,["program", "k", "place"],["program", "k", "place", "reckoning", "goals", "barred", "n", "row", "reckons", "way"],2,none,(.c (.ie (.c .eq (.ix (.v 2) (.ki 0)) (.uo .neg (.ki 1))) (.o (.l (.rt (.li .n)))) .n) (.c (.l (.st 3 (.ix (.ca 11 (.c (.v 0) .n)) (.v 1)))) (.c (.l (.st 4 (.li .n))) (.c (.l (.st 5 (.li .n))) (.c (.fz 0 (.fo (.en (.c (.v 0) .n)) (.t 2 (.c (.n 6) (.c (.n 7) .n))) (.c (.l (.st 8 (.co .Bj (.ca 17 (.c (.v 7) .n)) (.v 3)))) (.c (.l (.ap 4 (.or (.ca 15 (.c (.v 7) (.c (.v 3) .n))) (.an (.co .eq (.v 6) (.ki 0)) (.nt (.v 8)))))) (.o (.l (.ap 5 (.an (.v 8) (.nt (.ca 15 (.c (.v 7) (.c (.v 3) .n)))))))))))) (.c (.l (.st 9 (.ca 2 (.c (.ca 10 (.c (.ca 13 (.c (.v 0) .n)) .n)) (.c (.ix (.v 2) (.ki 0)) (.c (.v 4) (.c (.v 5) .n))))))) (.c (.ie (.c .i6 (.v 9) .kn) (.o (.l (.rt .kn))) .n) (.c (.l (.rv 9)) (.o (.l (.rt (.v 9)))))))))))),none⟩
def PK:List C.Dd:=BL::PJ
def Sz:List C.FT:=.p oP::Sy
def e19:C.tab PK=Sz:=C.bV e18 rfl rfl rfl
def Jh:Qqq :=
 (aq (aM (jB (ae gF (jV 1) (aL bJ (ag (jV 0) ai))))
  (aF (ae au (jV 0) (jV 1)))
  aR)
 (aF (ae bW (ae fZ (jV 1) (jC (.int 7919))) (jC (.int 11)))))
def kY:Qqk:=fn 2 Jh
def BM:C.Dd:=⟨"_law_cell",top 25,["_law_script", "_law_k"],["_law_script", "_law_k"],0,none,(.c (.ie (.c .lt (.v 1) (.fb .len (.c (.v 0) .n))) (.o (.l (.rt (.ix (.v 0) (.v 1))))) .n) (.o (.l (.rt (.bo .add (.bo .mul (.v 1) (.ki 7919)) (.ki 11)))))),none⟩
def PL:List C.Dd:=BM::PK
def SD:List C.FT:=.p kY::Sz
def e20:C.tab PL=SD:=C.bV e19 rfl rfl rfl
def IE:Qqq :=
 (aF (ae bh (ae fZ (ae bW (ae bW (jV 0) (ae fZ (jC (.int 7)) (jV 1))) (jC (.int 11))) (jC (.int 2862933555777941757))) (jC (.int 999999999999999989))))
def kW:Qqk:=fn 2 IE
def BO:C.Dd:=⟨"_law_mixed",top 26,["_law_cell_here", "_law_k"],["_law_cell_here", "_law_k"],0,none,(.o (.l (.rt (.bo .mod (.bo .mul (.bo .add (.bo .add (.v 0) (.bo .mul (.ki 7) (.v 1))) (.ki 11)) (.ki 2862933555777941757)) (.ki 999999999999999989))))),none⟩
def PN:List C.Dd:=BO::PL
def SF:List C.FT:=.p kW::SD
def e21:C.tab PN=SF:=C.bV e20 rfl rfl rfl
def Ib:Qqq :=
 (aF (ae aP (ae bh (aC kY (ag (jV 0) (ag (jC (.int 0)) ai))) (jC (.int 2))) (jC (.int 1))))
def qH:Qqk:=fn 1 Ib
def BP:C.Dd:=⟨"_law_is_free",top 27,["_law_script"],["_law_script"],1,none,(.o (.l (.rt (.co .eq (.bo .mod (.ca 1 (.c (.v 0) (.c (.ki 0) .n))) (.ki 2)) (.ki 1))))),none⟩
def PQ:List C.Dd:=BP::PN
def SG:List C.FT:=.p qH::SF
def e22:C.tab PQ=SG:=C.bV e21 rfl rfl rfl
def tP:Qqq :=
 (aq (ax 8 (ae bW (ae cL (ae cL (jV 0) (jC (.int 192))) (ae bW (jV 7) (jC (.int 1)))) (ae fZ (jC (.int 5)) (jV 7))))
 (aM (cI (jB (ae aP (jV 7) (jV 3))) (jB (ae aP (jV 7) (jC (.int 0)))))
  (ax 6 (ae bW (jV 6) (ae au (jV 1) (ae bh (ae bW (jV 8) (ae fZ (jV 5) (aL nU (ag (ae aP (jV 7) (jV 3)) ai)))) (jC (.int 26))))))
  (ax 6 (ae bW (jV 6) (ae au (ae bW (jV 1) (jC (.str "0123456789"))) (ae bh (jV 8) (jC (.int 36))))))))
def xJ:Qqq :=
 (aq (ax 6 (jC (.str "")))
 (aq (aU (cq (ag (jV 2) ai)) (gN 7)
  tP)
 (aq (aM (jB (ae (ft false) (jV 6) (aY (ag (jC (.str "say")) (ag (jC (.str "go")) (ag (jC (.str "part")) (ag (jC (.str "end")) ai)))))))
  (ax 6 (ae bW (jV 6) (jC (.str "1"))))
  aR)
 (cE 4 (jV 6)))))
def IG:Qqq :=
 (aq (ax 1 (jC (.str "abcdefghijklmnopqrstuvwxyz")))
 (aq (ax 0 (aC kW (ag (jV 0) (ag (jC (.int 3)) ai))))
 (aq (ax 2 (ae bW (jC (.int 1)) (ae bh (jV 0) (jC (.int 8)))))
 (aq (ax 3 (ae bh (ae cL (jV 0) (jC (.int 8))) (jV 2)))
 (aq (ax 4 (bL ai))
 (aq (aU (cq (ag (ae bW (jC (.int 3)) (ae bh (ae cL (jV 0) (jC (.int 64))) (jC (.int 3)))) ai)) (gN 5)
  xJ)
 (aF (jV 4))))))))
def qJ:Qqk:=fn 9 IG
def BQ:C.Dd:=⟨"_law_names",top 28,["_law_cell_here"],["_law_cell_here", "_law_signs", "_law_size", "_law_at", "_law_names_here", "_law_k", "_law_name", "_law_j", "_law_step"],1,none,(.c (.l (.st 1 (.ks "abcdefghijklmnopqrstuvwxyz"))) (.c (.l (.st 0 (.ca 1 (.c (.v 0) (.c (.ki 3) .n))))) (.c (.l (.st 2 (.bo .add (.ki 1) (.bo .mod (.v 0) (.ki 8))))) (.c (.l (.st 3 (.bo .mod (.bo .div (.v 0) (.ki 8)) (.v 2)))) (.c (.l (.st 4 (.li .n))) (.c (.fo (.r1 (.c (.bo .add (.ki 3) (.bo .mod (.bo .div (.v 0) (.ki 64)) (.ki 3))) .n)) (.n 5) (.c (.l (.st 6 (.ks ""))) (.c (.fo (.r1 (.c (.v 2) .n)) (.n 7) (.c (.l (.st 8 (.bo .add (.bo .div (.bo .div (.v 0) (.ki 192)) (.bo .add (.v 7) (.ki 1))) (.bo .mul (.ki 5) (.v 7))))) (.o (.ie (.or (.c .eq (.v 7) (.v 3)) (.c .eq (.v 7) (.ki 0))) (.o (.l (.st 6 (.bo .add (.v 6) (.ix (.v 1) (.bo .mod (.bo .add (.v 8) (.bo .mul (.v 5) (.fb .int (.c (.co .eq (.v 7) (.v 3)) .n)))) (.ki 26))))))) (.o (.l (.st 6 (.bo .add (.v 6) (.ix (.bo .add (.v 1) (.ks "0123456789")) (.bo .mod (.v 8) (.ki 36))))))))))) (.c (.ie (.c .oF (.v 6) (.tu (.c (.ks "say") (.c (.ks "go") (.c (.ks "part") (.c (.ks "end") .n)))))) (.o (.l (.st 6 (.bo .add (.v 6) (.ks "1"))))) .n) (.o (.l (.ap 4 (.v 6)))))))) (.o (.l (.rt (.v 4)))))))))),none⟩
def PR:List C.Dd:=BQ::PQ
def SJ:List C.FT:=.p qJ::SG
def e23:C.tab PR=SJ:=C.bV e22 rfl rfl rfl
def Ic:Qqq :=
 (aq (aM (jB (ae aP (ae bh (jV 0) (jC (.int 6))) (jC (.int 0))))
  (aF (ae au (bL (ag (jC (.int 0)) (ag (jC (.int 1)) (ag (ae jv (ae j4 (jC (.int 2)) (jC (.int 64))) (jC (.int 1))) (ag (ae bh (ae fZ (ae cL (jV 0) (jC (.int 24))) (jC (.int 48271))) (ae j4 (jC (.int 2)) (jC (.int 64)))) ai))))) (ae bh (ae cL (jV 0) (jC (.int 6))) (jC (.int 4)))))
  aR)
 (aF (ae au (jV 1) (ae bh (ae cL (jV 0) (jC (.int 6))) (aL bJ (ag (jV 1) ai))))))
def jN:Qqk:=fn 2 Ic
def BR:C.Dd:=⟨"_law_operand",top 29,["_law_cell_here", "_law_names_here"],["_law_cell_here", "_law_names_here"],0,none,(.c (.ie (.c .eq (.bo .mod (.v 0) (.ki 6)) (.ki 0)) (.o (.l (.rt (.ix (.li (.c (.ki 0) (.c (.ki 1) (.c (.bo .sub (.bo .pow (.ki 2) (.ki 64)) (.ki 1)) (.c (.bo .mod (.bo .mul (.bo .div (.v 0) (.ki 24)) (.ki 48271)) (.bo .pow (.ki 2) (.ki 64))) .n))))) (.bo .mod (.bo .div (.v 0) (.ki 6)) (.ki 4)))))) .n) (.o (.l (.rt (.ix (.v 1) (.bo .mod (.bo .div (.v 0) (.ki 6)) (.fb .len (.c (.v 1) .n)))))))),none⟩
def PV:List C.Dd:=BR::PR
def SK:List C.FT:=.p jN::SJ
def e24:C.tab PV=SK:=C.bV e23 rfl rfl rfl
def xK:Qqq :=
 (aq (ax 7 (aC kW (ag (jV 4) (ag (jV 6) ai))))
 (aq (ax 8 (aC kW (ag (jV 4) (ag (ae bW (jV 6) (jC (.int 20))) ai))))
 (aq (ax 9 (ae bh (aC kW (ag (jV 4) (ag (ae bW (jV 6) (jC (.int 40))) ai))) (jC (.int 8))))
 (aq (aM (jB (aC qH (ag (jV 0) ai)))
  (aq (ax 7 (ae bh (jV 4) (ae j4 (jC (.int 10)) (jC (.int 21)))))
 (aq (ax 8 (ae bh (ae cL (jV 4) (ae j4 (jC (.int 10)) (jC (.int 21)))) (ae j4 (jC (.int 10)) (jC (.int 21)))))
 (aq (ax 9 (ae bh (ae cL (jV 4) (ae j4 (jC (.int 10)) (jC (.int 42)))) (jC (.int 8))))
 (ax 4 (ae cL (jV 4) (ae fZ (jC (.int 8)) (ae j4 (jC (.int 10)) (jC (.int 42)))))))))
  aR)
 (cE 5 (aY (ag (ae au (jC (.str "+-*&|^<=")) (jV 9)) (ag (aC jN (ag (jV 7) (ag (jV 1) ai))) (ag (aC jN (ag (jV 8) (ag (jV 1) ai))) ai)))))))))
def II:Qqq :=
 (aq (ax 2 (aC kY (ag (jV 0) (ag (jC (.int 1)) ai))))
 (aq (ax 3 (ae bW (jC (.int 1)) (ae bh (jV 2) (jC (.int 4)))))
 (aq (aM (jB (ae aP (ae bh (ae cL (jV 2) (jC (.int 4))) (jC (.int 6))) (jC (.int 1))))
  (ax 3 (jC (.int 12)))
  aR)
 (aq (ax 4 (ae cL (jV 2) (jC (.int 24))))
 (aq (ax 5 (bL ai))
 (aq (aU (cq (ag (jV 3) ai)) (gN 6)
  xK)
 (aq (aM (cP (jB (ae aP (aL bJ (ag (jV 5) ai)) (jC (.int 2)))) (jB (ae aP (ae bh (ae cL (jV 2) (jC (.int 4))) (jC (.int 3))) (jC (.int 0)))))
  (fD 5 (jC (.int 1)) (aY (ag (ae au (ae au (jV 5) (jC (.int 0))) (jC (.int 0))) (ag (ae au (ae au (jV 5) (jC (.int 0))) (jC (.int 2))) (ag (ae au (ae au (jV 5) (jC (.int 0))) (jC (.int 1))) ai)))))
  aR)
 (aF (jV 5)))))))))
def qK:Qqk:=fn 10 II
def BU:C.Dd:=⟨"_law_deeds",top 30,["_law_script", "_law_names_here"],["_law_script", "_law_names_here", "_law_cell_here", "_law_many", "_law_rest", "_law_found", "_law_k", "_law_one", "_law_other", "_law_sign"],2,none,(.c (.l (.st 2 (.ca 4 (.c (.v 0) (.c (.ki 1) .n))))) (.c (.l (.st 3 (.bo .add (.ki 1) (.bo .mod (.v 2) (.ki 4))))) (.c (.ie (.c .eq (.bo .mod (.bo .div (.v 2) (.ki 4)) (.ki 6)) (.ki 1)) (.o (.l (.st 3 (.ki 12)))) .n) (.c (.l (.st 4 (.bo .div (.v 2) (.ki 24)))) (.c (.l (.st 5 (.li .n))) (.c (.fo (.r1 (.c (.v 3) .n)) (.n 6) (.c (.l (.st 7 (.ca 3 (.c (.v 4) (.c (.v 6) .n))))) (.c (.l (.st 8 (.ca 3 (.c (.v 4) (.c (.bo .add (.v 6) (.ki 20)) .n))))) (.c (.l (.st 9 (.bo .mod (.ca 3 (.c (.v 4) (.c (.bo .add (.v 6) (.ki 40)) .n))) (.ki 8)))) (.c (.ie (.b (.ca 2 (.c (.v 0) .n))) (.c (.l (.st 7 (.bo .mod (.v 4) (.bo .pow (.ki 10) (.ki 21))))) (.c (.l (.st 8 (.bo .mod (.bo .div (.v 4) (.bo .pow (.ki 10) (.ki 21))) (.bo .pow (.ki 10) (.ki 21))))) (.c (.l (.st 9 (.bo .mod (.bo .div (.v 4) (.bo .pow (.ki 10) (.ki 42))) (.ki 8)))) (.o (.l (.st 4 (.bo .div (.v 4) (.bo .mul (.ki 8) (.bo .pow (.ki 10) (.ki 42)))))))))) .n) (.o (.l (.ap 5 (.tu (.c (.ix (.ks "+-*&|^<=") (.v 9)) (.c (.ca 0 (.c (.v 7) (.c (.v 1) .n))) (.c (.ca 0 (.c (.v 8) (.c (.v 1) .n))) .n)))))))))))) (.c (.ie (.an (.c .eq (.fb .len (.c (.v 5) .n)) (.ki 2)) (.c .eq (.bo .mod (.bo .div (.v 2) (.ki 4)) (.ki 3)) (.ki 0))) (.o (.l (.si 5 (.ki 1) (.tu (.c (.ix (.ix (.v 5) (.ki 0)) (.ki 0)) (.c (.ix (.ix (.v 5) (.ki 0)) (.ki 2)) (.c (.ix (.ix (.v 5) (.ki 0)) (.ki 1)) .n))))))) .n) (.o (.l (.rt (.v 5))))))))))),none⟩
def PX:List C.Dd:=BU::PV
def SM:List C.FT:=.p qK::SK
def e25:C.tab PX=SM:=C.bV e24 rfl rfl rfl
def JV:Qqq :=
 (aq (ax 4 (ae au (jV 2) (ae bh (ae bh (jV 1) (jC (.int 60))) (aL bJ (ag (jV 2) ai)))))
 (aq (ax 5 (aC jN (ag (ae cL (jV 1) (jC (.int 43200))) (ag (jV 2) ai))))
 (aq (aM (jB (ae gF (ae bh (jV 0) (jC (.int 11))) (jC (.int 5))))
  (aq (pM (gT 3 (bR (gN 6) (bR (gN 7) (bR (gN 8) dX)))) (ae au (jV 3) (ae bh (ae bh (ae cL (jV 1) (jC (.int 60))) (jC (.int 12))) (aL bJ (ag (jV 3) ai)))))
 (aF (aY (ag (jC (.str "reckon")) (ag (jV 4) (ag (jV 6) (ag (jV 7) (ag (jV 8) ai))))))))
  aR)
 (aq (aM (jB (ae aP (ae bh (jV 0) (jC (.int 11))) (jC (.int 5))))
  (aF (aY (ag (jC (.str "copy")) (ag (jV 4) (ag (jV 5) ai)))))
  aR)
 (aq (aM (jB (ae aP (ae bh (jV 0) (jC (.int 11))) (jC (.int 6))))
  (aF (aY (ag (jC (.str "say")) (ag (jV 5) ai))))
  aR)
 (aq (aM (jB (ae gF (ae bh (jV 0) (jC (.int 11))) (jC (.int 9))))
  (aF (aY (ag (jC (.str "part")) (ag (jV 5) (ag (ae bh (ae cL (jV 1) (jC (.int 720))) (jC (.int 60))) ai)))))
  aR)
 (aF (aY (ag (jC (.str "part")) (ag (jV 5) (ag (cj fq (jC (.int 1))) ai)))))))))))
def uj:Qqk:=fn 9 JV
def BV:C.Dd:=⟨"_law_row",top 31,["_law_cell_here", "_law_other", "_law_names_here", "_law_deeds_here"],["_law_cell_here", "_law_other", "_law_names_here", "_law_deeds_here", "_law_name", "_law_operand_here", "_law_s", "_law_a", "_law_b"],1,none,(.c (.l (.st 4 (.ix (.v 2) (.bo .mod (.bo .mod (.v 1) (.ki 60)) (.fb .len (.c (.v 2) .n)))))) (.c (.l (.st 5 (.ca 1 (.c (.bo .div (.v 1) (.ki 43200)) (.c (.v 2) .n))))) (.c (.ie (.c .lt (.bo .mod (.v 0) (.ki 11)) (.ki 5)) (.c (.l (.as (.t 3 (.c (.n 6) (.c (.n 7) (.c (.n 8) .n)))) (.ix (.v 3) (.bo .mod (.bo .mod (.bo .div (.v 1) (.ki 60)) (.ki 12)) (.fb .len (.c (.v 3) .n)))))) (.o (.l (.rt (.tu (.c (.ks "reckon") (.c (.v 4) (.c (.v 6) (.c (.v 7) (.c (.v 8) .n)))))))))) .n) (.c (.ie (.c .eq (.bo .mod (.v 0) (.ki 11)) (.ki 5)) (.o (.l (.rt (.tu (.c (.ks "copy") (.c (.v 4) (.c (.v 5) .n))))))) .n) (.c (.ie (.c .eq (.bo .mod (.v 0) (.ki 11)) (.ki 6)) (.o (.l (.rt (.tu (.c (.ks "say") (.c (.v 5) .n)))))) .n) (.c (.ie (.c .lt (.bo .mod (.v 0) (.ki 11)) (.ki 9)) (.o (.l (.rt (.tu (.c (.ks "part") (.c (.v 5) (.c (.bo .mod (.bo .div (.v 1) (.ki 720)) (.ki 60)) .n))))))) .n) (.o (.l (.rt (.tu (.c (.ks "part") (.c (.v 5) (.c (.uo .neg (.ki 1)) .n))))))))))))),none⟩
def PY:List C.Dd:=BV::PX
def SN:List C.FT:=.p uj::SM
def e26:C.tab PY=SN:=C.bV e25 rfl rfl rfl
def Ji:Qqq :=
 (aq (ax 2 (cW (cq (ag (aL bJ (ag (jV 0) ai)) ai)) [0] (jB (ae aP (ae au (ae au (jV 1) (jV 0)) (jC (.int 0))) (jC (.str "end")))) (jV 0)))
 (aq (aM (cI (jB (ae gB (jV 2) (bL ai))) (jB (ae i5 (ae bh (jV 1) (jC (.int 3))) (jC (.int 0)))))
  (aF (aY (ag (jC (.str "end")) ai)))
  aR)
 (aF (aY (ag (jC (.str "go")) (ag (ae bh (ae cL (jV 1) (jC (.int 3))) (ae au (jV 2) (jC (.int 0)))) ai))))))
def x8:Qqk:=fn 3 Ji
def BW:C.Dd:=⟨"_law_last",top 32,["_law_rows", "_law_number_here"],["_law_rows", "_law_number_here", "_law_ends"],0,none,(.c (.l (.sc 2 (.r1 (.c (.fb .len (.c (.v 0) .n)) .n)) [0] (.c .eq (.ix (.ix (.v 1) (.v 0)) (.ki 0)) (.ks "end")) (.v 0))) (.c (.ie (.or (.c .qx (.v 2) (.li .n)) (.c .gt (.bo .mod (.v 1) (.ki 3)) (.ki 0))) (.o (.l (.rt (.tu (.c (.ks "end") .n))))) .n) (.o (.l (.rt (.tu (.c (.ks "go") (.c (.bo .mod (.bo .div (.v 1) (.ki 3)) (.ix (.v 2) (.ki 0))) .n)))))))),none⟩
def PZ:List C.Dd:=BW::PY
def SQ:List C.FT:=.p x8::SN
def e27:C.tab PZ=SQ:=C.bV e26 rfl rfl rfl
def Im:Qqq :=
 (aq (aM (jB (aC qH (ag (jV 0) ai)))
  (aF (aC kY (ag (jV 0) (ag (jV 1) ai))))
  aR)
 (aF (aC kW (ag (aL vC (ag (gR iL (jV 0) iz (gx (jC (.int 4)))) ai)) (ag (jV 1) ai)))))
def qI:Qqk:=fn 2 Im
def BX:C.Dd:=⟨"_law_number",top 34,["_law_script", "_law_k"],["_law_script", "_law_k"],2,none,(.c (.ie (.b (.ca 5 (.c (.v 0) .n))) (.o (.l (.rt (.ca 7 (.c (.v 0) (.c (.v 1) .n)))))) .n) (.o (.l (.rt (.ca 6 (.c (.fb .sum (.c (.sl (.v 0) .n (.s (.ki 4))) .n)) (.c (.v 1) .n))))))),none⟩
def P4:List C.Dd:=BX::PZ
def SR:List C.FT:=.p qI::SQ
def e28:C.tab P4=SR:=C.bV e27 rfl rfl rfl
def xM:Qqq :=
 (aq (ax 7 (aC kW (ag (jV 6) (ag (jV 5) ai))))
 (aq (cE 4 (aC uj (ag (jV 6) (ag (jV 7) (ag (jV 2) (ag (jV 3) ai))))))
 (aq (aM (jB (ae aP (ae bh (jV 6) (jC (.int 11))) (jC (.int 9))))
  (cE 4 (aY (ag (jC (.str "end")) ai)))
  aR)
 (aM (jB (ae aP (ae bh (jV 6) (jC (.int 11))) (jC (.int 10))))
  (cE 4 (aY (ag (jC (.str "go")) (ag (ae bh (ae cL (jV 7) (jC (.int 720))) (jC (.int 60))) ai))))
  aR))))
def IJ:Qqq :=
 (aq (ax 2 (aC qJ (ag (aC kY (ag (jV 0) (ag (jC (.int 0)) ai))) ai)))
 (aq (ax 3 (aC qK (ag (jV 0) (ag (jV 2) ai))))
 (aq (ax 4 (bL ai))
 (aq (bT 1 (aU (gj (ag (jV 1) ai)) (gT 2 (bR (gN 5) (bR (gN 6) dX)))
  xM))
 (aF (ae bW (jV 4) (bL (ag (aC x8 (ag (jV 4) (ag (aC qI (ag (jV 0) (ag (jC (.int 58)) ai))) ai))) ai))))))))
def xZ:Qqk:=fn 8 IJ
def BZ:C.Dd:=⟨"_law_rough",top 33,["_law_script", "_law_cells"],["_law_script", "_law_cells", "_law_names_here", "_law_deeds_here", "_law_rows", "_law_k", "_law_cell_here", "_law_other"],3,none,(.c (.l (.st 2 (.ca 5 (.c (.ca 8 (.c (.v 0) (.c (.ki 0) .n))) .n)))) (.c (.l (.st 3 (.ca 3 (.c (.v 0) (.c (.v 2) .n))))) (.c (.l (.st 4 (.li .n))) (.c (.fz 1 (.fo (.en (.c (.v 1) .n)) (.t 2 (.c (.n 5) (.c (.n 6) .n))) (.c (.l (.st 7 (.ca 7 (.c (.v 6) (.c (.v 5) .n))))) (.c (.l (.ap 4 (.ca 2 (.c (.v 6) (.c (.v 7) (.c (.v 2) (.c (.v 3) .n))))))) (.c (.ie (.c .eq (.bo .mod (.v 6) (.ki 11)) (.ki 9)) (.o (.l (.ap 4 (.tu (.c (.ks "end") .n))))) .n) (.o (.ie (.c .eq (.bo .mod (.v 6) (.ki 11)) (.ki 10)) (.o (.l (.ap 4 (.tu (.c (.ks "go") (.c (.bo .mod (.bo .div (.v 7) (.ki 720)) (.ki 60)) .n)))))) .n))))))) (.o (.l (.rt (.bo .add (.v 4) (.li (.c (.ca 1 (.c (.v 4) (.c (.ca 0 (.c (.v 0) (.c (.ki 58) .n))) .n))) .n)))))))))),none⟩
def P5:List C.Dd:=BZ::P4
def SV:List C.FT:=.p xZ::SR
def e29:C.tab P5=SV:=C.bV e28 rfl rfl rfl
def CJ:Qqq :=
 (ax 1 (ae jv (jV 1) (jC (.int 1))))
def xS:Qqx :=
 (jB (ae aP (ae au (ae au (jV 0) (jV 1)) (jC (.int 0))) (jC (.str "go"))))
def Jj:Qqq :=
 (aq (ax 1 (ae bh (jV 1) (aL bJ (ag (jV 0) ai))))
 (aq (ip xS
  CJ)
 (aF (jV 1))))
def x9:Qqk:=fn 2 Jj
def B1:C.Dd:=⟨"_law_goal",top 35,["_law_rough_here", "_law_to"],["_law_rough_here", "_law_to"],0,none,(.c (.l (.st 1 (.bo .mod (.v 1) (.fb .len (.c (.v 0) .n))))) (.c (.wh (.c .eq (.ix (.ix (.v 0) (.v 1)) (.ki 0)) (.ks "go")) (.o (.l (.st 1 (.bo .sub (.v 1) (.ki 1)))))) (.o (.l (.rt (.v 1)))))),none⟩
def P6:List C.Dd:=B1::P5
def SW:List C.FT:=.p x9::SV
def e30:C.tab P6=SW:=C.bV e29 rfl rfl rfl
def HR:Qqq :=
 (aq (ax 2 (cW (vy (ag (jC (.int 2)) (ag (aL bJ (ag (jV 0) ai)) ai))) [0] (jB (ae (ft false) (ae au (ae au (jV 1) (jV 0)) (jC (.int 0))) (aY (ag (jC (.str "reckon")) (ag (jC (.str "copy")) (ag (jC (.str "say")) ai)))))) (jV 0)))
 (aq (aM (cI (jB (ae gB (jV 2) (bL ai))) (jB (ae (ft true) (ae au (ae au (jV 0) (jC (.int 0))) (jC (.int 0))) (aY (ag (jC (.str "reckon")) (ag (jC (.str "copy")) (ag (jC (.str "say")) ai)))))))
  (aF (jV 0))
  aR)
 (aq (ax 3 (ae au (jV 2) (ae bh (ae cL (jV 1) (jC (.int 4))) (aL bJ (ag (jV 2) ai)))))
 (aq (fD 0 (jV 3) (aY (ag (jC (.str "part")) (ag (ae au (ae au (jV 0) (jV 3)) (jC (.int 1))) (ag (jC (.int 1)) ai)))))
 (aq (fD 0 (jC (.int 0)) (aY (ag (jC (.str "go")) (ag (jV 3) ai))))
 (aF (jV 0)))))))
def xq:Qzz→Option D:=lF 4 HR
def B2:C.Dd:=⟨"_law_with_while",top 36,["_law_rows", "_law_cell_here"],["_law_rows", "_law_cell_here", "_law_flat", "_law_last_here"],0,some [],(.c (.l (.sc 2 (.r2 (.c (.ki 2) (.c (.fb .len (.c (.v 0) .n)) .n))) [0] (.c .oF (.ix (.ix (.v 1) (.v 0)) (.ki 0)) (.tu (.c (.ks "reckon") (.c (.ks "copy") (.c (.ks "say") .n))))) (.v 0))) (.c (.ie (.or (.c .qx (.v 2) (.li .n)) (.c .wN (.ix (.ix (.v 0) (.ki 0)) (.ki 0)) (.tu (.c (.ks "reckon") (.c (.ks "copy") (.c (.ks "say") .n)))))) (.o (.l (.rt (.v 0)))) .n) (.c (.l (.st 3 (.ix (.v 2) (.bo .mod (.bo .div (.v 1) (.ki 4)) (.fb .len (.c (.v 2) .n)))))) (.c (.l (.si 0 (.v 3) (.tu (.c (.ks "part") (.c (.ix (.ix (.v 0) (.v 3)) (.ki 1)) (.c (.ki 1) .n)))))) (.c (.l (.si 0 (.ki 0) (.tu (.c (.ks "go") (.c (.v 3) .n))))) (.o (.l (.rt (.v 0))))))))),none⟩
def P7:List C.Dd:=B2::P6
def SX:List C.FT:=.oo xq::SW
def e31:C.tab P7=SX:=C.D3 e30 rfl rfl rfl
def HW:Qqq :=
 (aq (ax 2 (cW (cq (ag (aL bJ (ag (jV 0) ai)) ai)) [0] (jB (ae (ft false) (ae au (ae au (jV 1) (jV 0)) (jC (.int 0))) (aY (ag (jC (.str "reckon")) (ag (jC (.str "copy")) (ag (jC (.str "say")) ai)))))) (jV 0)))
 (aq (aM (jB (ae aP (ae bh (jV 1) (jC (.int 4))) (jC (.int 3))))
  (mC [0] [(0,0),(1,1)] xq (ag (jV 0) (ag (jV 1) ai)))
  aR)
 (aq (aM (cI (jB (ae gF (aL bJ (ag (jV 2) ai)) (jC (.int 2)))) (jB (ae aP (ae bh (jV 1) (jC (.int 2))) (jC (.int 0)))))
  (aF (jV 0))
  aR)
 (aq (ax 3 (ae au (jV 2) (ae bh (ae cL (jV 1) (jC (.int 4))) (ae jv (aL bJ (ag (jV 2) ai)) (jC (.int 1))))))
 (aq (bT 2 (ax 4 (cW (bK (jV 2)) [3] (jB (ae i5 (jV 0) (jV 1))) (jV 0))))
 (aq (ax 5 (ae au (jV 4) (ae bh (ae cL (jV 1) (jC (.int 256))) (aL bJ (ag (jV 4) ai)))))
 (aq (ax 6 (ae bh (ae cL (jV 1) (jC (.int 16384))) (aL bJ (ag (jV 0) ai))))
 (aq (aM (jB (ae aP (ae au (ae au (jV 0) (cj fq (jC (.int 1)))) (jC (.int 0))) (jC (.str "go"))))
  (ax 6 (ae bh (jV 6) (ae bW (jV 3) (jC (.int 1)))))
  aR)
 (aq (aM (jB (nB gF ql (jV 3) (jV 6) (jV 5)))
  (ax 6 (ae bW (jV 5) (jC (.int 1))))
  aR)
 (aq (aM (jB (ae aP (ae au (ae au (jV 0) (jV 6)) (jC (.int 0))) (jC (.str "go"))))
  (ax 6 (jC (.int 0)))
  aR)
 (aq (fD 0 (jV 3) (aY (ag (jC (.str "part")) (ag (ae au (ae au (jV 0) (jV 3)) (jC (.int 1))) (ag (ae bW (jV 5) (jC (.int 1))) ai)))))
 (aq (fD 0 (jV 5) (aY (ag (jC (.str "go")) (ag (jV 6) ai))))
 (aF (jV 0))))))))))))))
def xx:Qzz→Option D:=lF 7 HW
def B3:C.Dd:=⟨"_law_with_else",top 37,["_law_rows", "_law_cell_here"],["_law_rows", "_law_cell_here", "_law_flat", "_law_first", "_law_later", "_law_last_here", "_law_to"],1,some [],(.c (.l (.sc 2 (.r1 (.c (.fb .len (.c (.v 0) .n)) .n)) [0] (.c .oF (.ix (.ix (.v 1) (.v 0)) (.ki 0)) (.tu (.c (.ks "reckon") (.c (.ks "copy") (.c (.ks "say") .n))))) (.v 0))) (.c (.ie (.c .eq (.bo .mod (.v 1) (.ki 4)) (.ki 3)) (.o (.l (.rO 0 [0] (.c (.v 0) (.c (.v 1) .n))))) .n) (.c (.ie (.or (.c .lt (.fb .len (.c (.v 2) .n)) (.ki 2)) (.c .eq (.bo .mod (.v 1) (.ki 2)) (.ki 0))) (.o (.l (.rt (.v 0)))) .n) (.c (.l (.st 3 (.ix (.v 2) (.bo .mod (.bo .div (.v 1) (.ki 4)) (.bo .sub (.fb .len (.c (.v 2) .n)) (.ki 1)))))) (.c (.fz 2 (.l (.sc 4 (.l (.v 2)) [3] (.c .gt (.v 0) (.v 1)) (.v 0)))) (.c (.l (.st 5 (.ix (.v 4) (.bo .mod (.bo .div (.v 1) (.ki 256)) (.fb .len (.c (.v 4) .n)))))) (.c (.l (.st 6 (.bo .mod (.bo .div (.v 1) (.ki 16384)) (.fb .len (.c (.v 0) .n))))) (.c (.ie (.c .eq (.ix (.ix (.v 0) (.uo .neg (.ki 1))) (.ki 0)) (.ks "go")) (.o (.l (.st 6 (.bo .mod (.v 6) (.bo .add (.v 3) (.ki 1)))))) .n) (.c (.ie (.h .lt .le (.v 3) (.v 6) (.v 5)) (.o (.l (.st 6 (.bo .add (.v 5) (.ki 1))))) .n) (.c (.ie (.c .eq (.ix (.ix (.v 0) (.v 6)) (.ki 0)) (.ks "go")) (.o (.l (.st 6 (.ki 0)))) .n) (.c (.l (.si 0 (.v 3) (.tu (.c (.ks "part") (.c (.ix (.ix (.v 0) (.v 3)) (.ki 1)) (.c (.bo .add (.v 5) (.ki 1)) .n)))))) (.c (.l (.si 0 (.v 5) (.tu (.c (.ks "go") (.c (.v 6) .n))))) (.o (.l (.rt (.v 0)))))))))))))))),none⟩
def P8:List C.Dd:=B3::P7
def SY:List C.FT:=.oo xx::SX
def e32:C.tab P8=SY:=C.D3 e31 rfl rfl rfl
def xF:Qqq :=
 (aq (ax 6 (aC kY (ag (jV 0) (ag (ae bW (jC (.int 2)) (jV 5)) ai))))
 (aq (cE 4 (aC uj (ag (ae bW (ae fZ (ae cL (jV 6) (jC (.int 11))) (jC (.int 11))) (ae bh (jV 6) (jC (.int 7)))) (ag (aC kW (ag (jV 6) (ag (jV 5) ai))) (ag (jV 2) (ag (jV 3) ai))))))
 (cE 4 (aY (ag (jC (.str "go")) (ag (ae jv (ae fZ (jC (.int 2)) (jV 5)) (jC (.int 1))) ai))))))
def Io:Qqq :=
 (aq (ax 2 (aC qJ (ag (aC kY (ag (jV 0) (ag (jC (.int 0)) ai))) ai)))
 (aq (ax 3 (aC qK (ag (jV 0) (ag (jV 2) ai))))
 (aq (ax 4 (bL (ag (aY (ag (jC (.str "go")) (ag (ae jv (ae fZ (jC (.int 2)) (jV 1)) (jC (.int 1))) ai))) ai)))
 (aq (aU (cq (ag (jV 1) ai)) (gN 5)
  xF)
 (aq (fD 4 (jC (.int 2)) (aY (ag (jC (.str "go")) (ag (ae bW (ae fZ (jC (.int 2)) (jV 1)) (jC (.int 1))) ai))))
 (aF (ae bW (jV 4) (bL (ag (aY (ag (jC (.str "end")) ai)) ai)))))))))
def xT:Qqk:=fn 7 Io
def B4:C.Dd:=⟨"_law_stairs",top 38,["_law_script", "_law_many"],["_law_script", "_law_many", "_law_names_here", "_law_deeds_here", "_law_rows", "_law_k", "_law_cell_here"],3,none,(.c (.l (.st 2 (.ca 9 (.c (.ca 12 (.c (.v 0) (.c (.ki 0) .n))) .n)))) (.c (.l (.st 3 (.ca 7 (.c (.v 0) (.c (.v 2) .n))))) (.c (.l (.st 4 (.li (.c (.tu (.c (.ks "go") (.c (.bo .sub (.bo .mul (.ki 2) (.v 1)) (.ki 1)) .n))) .n)))) (.c (.fo (.r1 (.c (.v 1) .n)) (.n 5) (.c (.l (.st 6 (.ca 12 (.c (.v 0) (.c (.bo .add (.ki 2) (.v 5)) .n))))) (.c (.l (.ap 4 (.ca 6 (.c (.bo .add (.bo .mul (.bo .div (.v 6) (.ki 11)) (.ki 11)) (.bo .mod (.v 6) (.ki 7))) (.c (.ca 11 (.c (.v 6) (.c (.v 5) .n))) (.c (.v 2) (.c (.v 3) .n))))))) (.o (.l (.ap 4 (.tu (.c (.ks "go") (.c (.bo .sub (.bo .mul (.ki 2) (.v 5)) (.ki 1)) .n))))))))) (.c (.l (.si 4 (.ki 2) (.tu (.c (.ks "go") (.c (.bo .add (.bo .mul (.ki 2) (.v 1)) (.ki 1)) .n))))) (.o (.l (.rt (.bo .add (.v 4) (.li (.c (.tu (.c (.ks "end") .n)) .n))))))))))),none⟩
def P9:List C.Dd:=B4::P8
def S0:List C.FT:=.p xT::SY
def e33:C.tab P9=S0:=C.bV e32 rfl rfl rfl
def Ie:Qqq :=
 (aq (ax 5 (ae bh (jV 0) (jC (.int 14))))
 (aq (ax 6 (ae cL (jV 0) (jC (.int 14))))
 (aq (aM (jB (ae gF (jV 5) (jC (.int 6))))
  (aq (pM (gT 3 (bR (gN 7) (bR (gN 8) (bR (gN 9) dX)))) (ae au (jV 4) (ae bh (ae cL (jV 6) (aL bJ (ag (jV 3) ai))) (aL bJ (ag (jV 4) ai)))))
 (aF (aY (ag (jC (.str "reckon")) (ag (ae au (jV 3) (ae bh (jV 6) (aL bJ (ag (jV 3) ai)))) (ag (jV 7) (ag (jV 8) (ag (jV 9) ai))))))))
  aR)
 (aq (aM (jB (ae gF (jV 5) (jC (.int 8))))
  (aF (aY (ag (jC (.str "copy")) (ag (ae au (jV 3) (ae bh (jV 6) (aL bJ (ag (jV 3) ai)))) (ag (aC jN (ag (ae cL (jV 6) (aL bJ (ag (jV 3) ai))) (ag (jV 3) ai))) ai)))))
  aR)
 (aq (aM (jB (ae gF (jV 5) (jC (.int 10))))
  (aF (aY (ag (jC (.str "say")) (ag (aC jN (ag (jV 6) (ag (jV 3) ai))) ai))))
  aR)
 (aq (aM (cP (jB (ae gF (jV 5) (jC (.int 12)))) (jB (ae i5 (jV 2) (jC (.int 1)))))
  (aF (aY (ag (jC (.str "part")) (ag (aC jN (ag (ae cL (jV 6) (ae jv (jV 2) (jC (.int 1)))) (ag (jV 3) ai))) (ag (ae bh (ae bW (ae bW (jV 1) (jC (.int 2))) (ae bh (jV 6) (ae jv (jV 2) (jC (.int 1))))) (jV 2)) ai)))))
  aR)
 (aq (aM (jB (ae aP (jV 5) (jC (.int 12))))
  (aF (aY (ag (jC (.str "go")) (ag (ae bh (jV 6) (jV 2)) ai))))
  aR)
 (aF (aY (ag (jC (.str "end")) ai))))))))))
def tQ:Qqk:=fn 10 Ie
def B5:C.Dd:=⟨"_law_any_row",top 39,["_law_cell_here", "_law_n", "_law_many", "_law_names_here", "_law_deeds_here"],["_law_cell_here", "_law_n", "_law_many", "_law_names_here", "_law_deeds_here", "_law_kind", "_law_rest", "_law_s", "_law_a", "_law_b"],1,none,(.c (.l (.st 5 (.bo .mod (.v 0) (.ki 14)))) (.c (.l (.st 6 (.bo .div (.v 0) (.ki 14)))) (.c (.ie (.c .lt (.v 5) (.ki 6)) (.c (.l (.as (.t 3 (.c (.n 7) (.c (.n 8) (.c (.n 9) .n)))) (.ix (.v 4) (.bo .mod (.bo .div (.v 6) (.fb .len (.c (.v 3) .n))) (.fb .len (.c (.v 4) .n)))))) (.o (.l (.rt (.tu (.c (.ks "reckon") (.c (.ix (.v 3) (.bo .mod (.v 6) (.fb .len (.c (.v 3) .n)))) (.c (.v 7) (.c (.v 8) (.c (.v 9) .n)))))))))) .n) (.c (.ie (.c .lt (.v 5) (.ki 8)) (.o (.l (.rt (.tu (.c (.ks "copy") (.c (.ix (.v 3) (.bo .mod (.v 6) (.fb .len (.c (.v 3) .n)))) (.c (.ca 9 (.c (.bo .div (.v 6) (.fb .len (.c (.v 3) .n))) (.c (.v 3) .n))) .n))))))) .n) (.c (.ie (.c .lt (.v 5) (.ki 10)) (.o (.l (.rt (.tu (.c (.ks "say") (.c (.ca 9 (.c (.v 6) (.c (.v 3) .n))) .n)))))) .n) (.c (.ie (.an (.c .lt (.v 5) (.ki 12)) (.c .gt (.v 2) (.ki 1))) (.o (.l (.rt (.tu (.c (.ks "part") (.c (.ca 9 (.c (.bo .div (.v 6) (.bo .sub (.v 2) (.ki 1))) (.c (.v 3) .n))) (.c (.bo .mod (.bo .add (.bo .add (.v 1) (.ki 2)) (.bo .mod (.v 6) (.bo .sub (.v 2) (.ki 1)))) (.v 2)) .n))))))) .n) (.c (.ie (.c .eq (.v 5) (.ki 12)) (.o (.l (.rt (.tu (.c (.ks "go") (.c (.bo .mod (.v 6) (.v 2)) .n)))))) .n) (.o (.l (.rt (.tu (.c (.ks "end") .n)))))))))))),none⟩
def Qa:List C.Dd:=B5::P9
def S1:List C.FT:=.p tQ::S0
def e34:C.tab Qa=S1:=C.bV e33 rfl rfl rfl
def TN:Qqq :=
 (aq (ax 2 (ae au (jV 0) (jV 1)))
 (aq (aM (jB (ae aP (ae au (jV 2) (jC (.int 0))) (jC (.str "end"))))
  (aF (bL ai))
  aR)
 (aq (aM (jB (ae aP (ae au (jV 2) (jC (.int 0))) (jC (.str "go"))))
  (aF (bL (ag (ae au (jV 2) (jC (.int 1))) ai)))
  aR)
 (aq (aM (jB (ae aP (ae au (jV 2) (jC (.int 0))) (jC (.str "part"))))
  (aF (bL (ag (ae bW (jV 1) (jC (.int 1))) (ag (ae au (jV 2) (jC (.int 2))) ai))))
  aR)
 (aF (bL (ag (ae bW (jV 1) (jC (.int 1))) ai)))))))
def qF:Qqk:=fn 3 TN
def B6:C.Dd:=⟨"_law_followers",top 44,["_law_program_here", "_law_n"],["_law_program_here", "_law_n", "_law_row_here"],0,none,(.c (.l (.st 2 (.ix (.v 0) (.v 1)))) (.c (.ie (.c .eq (.ix (.v 2) (.ki 0)) (.ks "end")) (.o (.l (.rt (.li .n)))) .n) (.c (.ie (.c .eq (.ix (.v 2) (.ki 0)) (.ks "go")) (.o (.l (.rt (.li (.c (.ix (.v 2) (.ki 1)) .n))))) .n) (.c (.ie (.c .eq (.ix (.v 2) (.ki 0)) (.ks "part")) (.o (.l (.rt (.li (.c (.bo .add (.v 1) (.ki 1)) (.c (.ix (.v 2) (.ki 2)) .n)))))) .n) (.o (.l (.rt (.li (.c (.bo .add (.v 1) (.ki 1)) .n))))))))),none⟩
def Qb:List C.Dd:=B6::Qa
def S2:List C.FT:=.p qF::S1
def e35:C.tab Qb=S2:=C.bV e34 rfl rfl rfl
def tM:Qqq :=
 (aM (jB (ae aP (ae au (ae au (jV 0) (jV 3)) (jC (.int 0))) (jC (.str "end"))))
  (lA 2 (jV 3) (jC (.bl true)))
  aR)
def xr:Qqq :=
 (aq (pM (gT 2 (bR (gN 6) (bR (gN 7) dX))) (ae au (bL (ag (aY (ag (jV 5) (ag (jV 3) ai))) (ag (aY (ag (jV 3) (ag (jV 5) ai))) ai))) (aL nU (ag (jV 1) ai))))
 (aM (cP (jB (f6 false (jV 6) (jV 2))) (jB (f6 true (jV 7) (jV 2))))
  (aq (lA 2 (jV 7) (jC (.bl true)))
 (ax 4 (jC (.bl true))))
  aR))
def xt:Qqq :=
 (aU (bK (aC qF (ag (jV 0) (ag (jV 3) ai)))) (gN 5)
  xr)
def xu:Qqq :=
 (aq (ax 4 (jC (.bl false)))
 (aU (cq (ag (aL bJ (ag (jV 0) ai)) ai)) (gN 3)
  xt))
abbrev CB:Qqx :=
 (jB (jV 4))
def H0:Qqq :=
 (aq (ax 2 (zi (jC (.int 0)) (jC (.bl true))))
 (aq (aM (eO (jB (jV 1)))
  (aq (ax 2 uT)
 (aU (cq (ag (aL bJ (ag (jV 0) ai)) ai)) (gN 3)
  tM))
  aR)
 (aq (ax 4 (jC (.bl true)))
 (aq (ip CB
  xu)
 (aF (jV 2))))))
def tN:Qqk:=fn 8 H0
def B7:C.Dd:=⟨"_law_comes_to",top 40,["_law_rows", "_law_ahead"],["_law_rows", "_law_ahead", "_law_seen", "_law_n", "_law_more", "_law_m", "_law_one", "_law_other"],1,none,(.c (.l (.st 2 (.d1 (.ki 0) (.kb true)))) (.c (.ie (.nt (.b (.v 1))) (.c (.l (.st 2 .dK)) (.o (.fo (.r1 (.c (.fb .len (.c (.v 0) .n)) .n)) (.n 3) (.o (.ie (.c .eq (.ix (.ix (.v 0) (.v 3)) (.ki 0)) (.ks "end")) (.o (.l (.dp 2 (.v 3) (.kb true)))) .n))))) .n) (.c (.l (.st 4 (.kb true))) (.c (.wh (.b (.v 4)) (.c (.l (.st 4 (.kb false))) (.o (.fo (.r1 (.c (.fb .len (.c (.v 0) .n)) .n)) (.n 3) (.o (.fo (.l (.ca 0 (.c (.v 0) (.c (.v 3) .n)))) (.n 5) (.c (.l (.as (.t 2 (.c (.n 6) (.c (.n 7) .n))) (.ix (.li (.c (.tu (.c (.v 5) (.c (.v 3) .n))) (.c (.tu (.c (.v 3) (.c (.v 5) .n))) .n))) (.fb .int (.c (.v 1) .n))))) (.o (.ie (.an (.d false (.v 6) (.v 2)) (.d true (.v 7) (.v 2))) (.c (.l (.dp 2 (.v 7) (.kb true))) (.o (.l (.st 4 (.kb true))))) .n))))))))) (.o (.l (.rt (.v 2)))))))),none⟩
def Qc:List C.Dd:=B7::Qb
def S3:List C.FT:=.p tN::S2
def e36:C.tab Qc=S3:=C.bV e35 rfl rfl rfl
def tO:Qqq :=
 (aq (ax 3 (aC tN (ag (jV 0) (ag (jC (.bl true)) ai))))
 (aq (ax 4 (aC tN (ag (jV 0) (ag (jC (.bl false)) ai))))
 (aq (ax 5 (cW (cq (ag (aL bJ (ag (jV 0) ai)) ai)) [3] (jB (f6 true (jV 0) (jV 1))) (jV 0)))
 (aq (ax 6 (cW (cq (ag (aL bJ (ag (jV 0) ai)) ai)) [4] (jB (f6 true (jV 0) (jV 1))) (jV 0)))
 (aM (jB (ae iA (jV 5) (bL ai)))
  (fD 0 (ae jv (ae au (jV 5) (jC (.int 0))) (jC (.int 1))) (aY (ag (jC (.str "say")) (ag (jV 2) ai))))
  (aM (cP (jB (ae iA (jV 6) (bL ai))) (jB (ae aP (ae au (jV 6) (cj fq (jC (.int 1)))) (jV 1))))
  (fD 0 (jV 1) (aY (ag (jC (.str "end")) ai)))
  (aM (jB (ae iA (jV 6) (bL ai)))
  (fD 0 (ae au (jV 6) (cj fq (jC (.int 1)))) (aY (ag (jC (.str "say")) (ag (jV 2) ai))))
  (aF (jV 0)))))))))
def Ip:Qqq :=
 (aq (ax 1 (ae jv (aL bJ (ag (jV 0) ai)) (jC (.int 1))))
 (aq (aM (jB (ae jI (ae au (ae au (jV 0) (jV 1)) (jC (.int 0))) (jC (.str "go"))))
  (fD 0 (jV 1) (aY (ag (jC (.str "end")) ai)))
  aR)
 (aq (aU (cq (ag (ae fZ (jC (.int 2)) (aL bJ (ag (jV 0) ai))) ai)) (gN 2)
  tO)
 (aF (jV 0)))))
def tT:Qzz→Option D:=lF 7 Ip
def B8:C.Dd:=⟨"_law_mended",top 41,["_law_rows"],["_law_rows", "_law_last_here", "_law_turn", "_law_seen", "_law_near", "_law_lost", "_law_dead"],2,some [],(.c (.l (.st 1 (.bo .sub (.fb .len (.c (.v 0) .n)) (.ki 1)))) (.c (.ie (.c .ne (.ix (.ix (.v 0) (.v 1)) (.ki 0)) (.ks "go")) (.o (.l (.si 0 (.v 1) (.tu (.c (.ks "end") .n))))) .n) (.c (.fo (.r1 (.c (.bo .mul (.ki 2) (.fb .len (.c (.v 0) .n))) .n)) (.n 2) (.c (.l (.st 3 (.ca 0 (.c (.v 0) (.c (.kb true) .n))))) (.c (.l (.st 4 (.ca 0 (.c (.v 0) (.c (.kb false) .n))))) (.c (.l (.sc 5 (.r1 (.c (.fb .len (.c (.v 0) .n)) .n)) [3] (.d true (.v 0) (.v 1)) (.v 0))) (.c (.l (.sc 6 (.r1 (.c (.fb .len (.c (.v 0) .n)) .n)) [4] (.d true (.v 0) (.v 1)) (.v 0))) (.o (.ie (.c .qy (.v 5) (.li .n)) (.o (.l (.si 0 (.bo .sub (.ix (.v 5) (.ki 0)) (.ki 1)) (.tu (.c (.ks "say") (.c (.v 2) .n)))))) (.o (.ie (.an (.c .qy (.v 6) (.li .n)) (.c .eq (.ix (.v 6) (.uo .neg (.ki 1))) (.v 1))) (.o (.l (.si 0 (.v 1) (.tu (.c (.ks "end") .n))))) (.o (.ie (.c .qy (.v 6) (.li .n)) (.o (.l (.si 0 (.ix (.v 6) (.uo .neg (.ki 1))) (.tu (.c (.ks "say") (.c (.v 2) .n)))))) (.o (.l (.rt (.v 0))))))))))))))) (.o (.l (.rt (.v 0))))))),none⟩
def Qe:List C.Dd:=B8::Qc
def S4:List C.FT:=.oo tT::S3
def e37:C.tab Qe=S4:=C.D3 e36 rfl rfl rfl
def HN:Qqq :=
 (aq (ax 2 (aC qJ (ag (aC kY (ag (jV 0) (ag (jC (.int 0)) ai))) ai)))
 (aq (ax 3 (aC qK (ag (jV 0) (ag (jV 2) ai))))
 (aq (ax 4 (aL vw (ag (jC (.int 1)) (ag (aL bJ (ag (jV 1) ai)) ai))))
 (aq (ax 5 (bL (ag (aY (ag (jC (.str "end")) ai)) ai)))
 (aq (aM (jB (ae i5 (aL bJ (ag (jV 1) ai)) (jC (.int 0))))
  (ax 5 (cW (cq (ag (jV 4) ai)) [4,2,3,1] fu (aC tQ (ag (ae au (jV 4) (jV 0)) (ag (jV 0) (ag (jV 1) (ag (jV 2) (ag (jV 3) ai))))))))
  aR)
 (mC [5] [(0,5)] tT (ag (jV 5) ai)))))))
def xm:Qqk:=fn 6 HN
def B9:C.Dd:=⟨"_law_any_program",top 42,["_law_script", "_law_cells"],["_law_script", "_law_cells", "_law_names_here", "_law_deeds_here", "_law_many", "_law_rows"],3,none,(.c (.l (.st 2 (.ca 14 (.c (.ca 17 (.c (.v 0) (.c (.ki 0) .n))) .n)))) (.c (.l (.st 3 (.ca 12 (.c (.v 0) (.c (.v 2) .n))))) (.c (.l (.st 4 (.fb .max (.c (.ki 1) (.c (.fb .len (.c (.v 1) .n)) .n))))) (.c (.l (.st 5 (.li (.c (.tu (.c (.ks "end") .n)) .n)))) (.c (.ie (.c .gt (.fb .len (.c (.v 1) .n)) (.ki 0)) (.o (.l (.sc 5 (.r1 (.c (.v 4) .n)) [4,2,3,1] .y (.ca 3 (.c (.ix (.v 4) (.v 0)) (.c (.v 0) (.c (.v 1) (.c (.v 2) (.c (.v 3) .n))))))))) .n) (.o (.l (.rO 0 [5] (.c (.v 5) .n))))))))),none⟩
def Qf:List C.Dd:=B9::Qe
def S5:List C.FT:=.p xm::S4
def e38:C.tab Qf=S5:=C.bV e37 rfl rfl rfl
def xA:Qqq :=
 (aq (aM (cP (jB (ae aP (ae au (jV 6) (jC (.int 0))) (jC (.str "part")))) (jB (ae aP (ae au (jV 6) (jC (.int 2))) (cj fq (jC (.int 1))))))
  (ax 6 (aY (ag (jC (.str "part")) (ag (ae au (jV 6) (jC (.int 1))) (ag (ae bW (jV 5) (jC (.int 2))) ai)))))
  (aM (cP (jB (ae aP (ae au (jV 6) (jC (.int 0))) (jC (.str "part")))) (jB (ae aP (ae bh (ae au (jV 6) (jC (.int 2))) (aL bJ (ag (jV 3) ai))) (ae bW (jV 5) (jC (.int 1))))))
  (ax 6 (aY (ag (jC (.str "part")) (ag (ae au (jV 6) (jC (.int 1))) (ag (jV 5) ai)))))
  (aM (jB (ae aP (ae au (jV 6) (jC (.int 0))) (jC (.str "part"))))
  (ax 6 (aY (ag (jC (.str "part")) (ag (ae au (jV 6) (jC (.int 1))) (ag (ae bh (ae au (jV 6) (jC (.int 2))) (aL bJ (ag (jV 3) ai))) ai)))))
  (aM (jB (ae aP (ae au (jV 6) (jC (.int 0))) (jC (.str "go"))))
  (ax 6 (aY (ag (jC (.str "go")) (ag (aC x9 (ag (jV 3) (ag (ae au (jV 6) (jC (.int 1))) ai))) ai))))
  aR))))
 (cE 4 (jV 6)))
def Ig:Qqq :=
 (aq (aM (jB (aC qH (ag (jV 0) ai)))
  (aF (aC xm (ag (jV 0) (ag (jV 1) ai))))
  aR)
 (aq (ax 2 (aC qI (ag (jV 0) (ag (jC (.int 57)) ai))))
 (aq (aM (jB (ae aP (ae bh (jV 2) (jC (.int 8))) (jC (.int 1))))
  (aF (aC xT (ag (jV 0) (ag (ae bW (jC (.int 1)) (ae bh (ae cL (jV 2) (jC (.int 8))) (jC (.int 28)))) ai))))
  aR)
 (aq (ax 3 (aC xZ (ag (jV 0) (ag (jV 1) ai))))
 (aq (ax 4 (bL ai))
 (aq (bT 3 (aU (gj (ag (jV 3) ai)) (gT 2 (bR (gN 5) (bR (gN 6) dX)))
  xA))
 (mC [4] [(0,4)] xx (ag (jV 4) (ag (aC qI (ag (jV 0) (ag (jC (.int 59)) ai))) ai)))))))))
def xN:Qqk:=fn 7 Ig
def Ca:C.Dd:=⟨"_law_program",top 43,["_law_script", "_law_cells"],["_law_script", "_law_cells", "_law_turn", "_law_rough_here", "_law_rows", "_law_n", "_law_row_here"],4,none,(.c (.ie (.b (.ca 16 (.c (.v 0) .n))) (.o (.l (.rt (.ca 0 (.c (.v 0) (.c (.v 1) .n)))))) .n) (.c (.l (.st 2 (.ca 10 (.c (.v 0) (.c (.ki 57) .n))))) (.c (.ie (.c .eq (.bo .mod (.v 2) (.ki 8)) (.ki 1)) (.o (.l (.rt (.ca 5 (.c (.v 0) (.c (.bo .add (.ki 1) (.bo .mod (.bo .div (.v 2) (.ki 8)) (.ki 28))) .n)))))) .n) (.c (.l (.st 3 (.ca 9 (.c (.v 0) (.c (.v 1) .n))))) (.c (.l (.st 4 (.li .n))) (.c (.fz 3 (.fo (.en (.c (.v 3) .n)) (.t 2 (.c (.n 5) (.c (.n 6) .n))) (.c (.ie (.an (.c .eq (.ix (.v 6) (.ki 0)) (.ks "part")) (.c .eq (.ix (.v 6) (.ki 2)) (.uo .neg (.ki 1)))) (.o (.l (.st 6 (.tu (.c (.ks "part") (.c (.ix (.v 6) (.ki 1)) (.c (.bo .add (.v 5) (.ki 2)) .n))))))) (.o (.ie (.an (.c .eq (.ix (.v 6) (.ki 0)) (.ks "part")) (.c .eq (.bo .mod (.ix (.v 6) (.ki 2)) (.fb .len (.c (.v 3) .n))) (.bo .add (.v 5) (.ki 1)))) (.o (.l (.st 6 (.tu (.c (.ks "part") (.c (.ix (.v 6) (.ki 1)) (.c (.v 5) .n))))))) (.o (.ie (.c .eq (.ix (.v 6) (.ki 0)) (.ks "part")) (.o (.l (.st 6 (.tu (.c (.ks "part") (.c (.ix (.v 6) (.ki 1)) (.c (.bo .mod (.ix (.v 6) (.ki 2)) (.fb .len (.c (.v 3) .n))) .n))))))) (.o (.ie (.c .eq (.ix (.v 6) (.ki 0)) (.ks "go")) (.o (.l (.st 6 (.tu (.c (.ks "go") (.c (.ca 8 (.c (.v 3) (.c (.ix (.v 6) (.ki 1)) .n))) .n)))))) .n))))))) (.o (.l (.ap 4 (.v 6))))))) (.o (.l (.rO 6 [4] (.c (.v 4) (.c (.ca 10 (.c (.v 0) (.c (.ki 59) .n))) .n))))))))))),none⟩
def Qg:List C.Dd:=Ca::Qf
def S6:List C.FT:=.p xN::S5
def e39:C.tab Qg=S6:=C.bV e38 rfl rfl rfl
def xG:Qqq :=
 (cE 1 (aY (ag (jV 2) (ag (jV 3) ai))))
def xH:Qqq :=
 (aU (bK (aC qF (ag (jV 0) (ag (jV 2) ai)))) (gN 3)
  xG)
def Iq:Qqq :=
 (aq (ax 1 (bL (ag (aY (ag (cj fq (jC (.int 1))) (ag (jC (.int 0)) ai))) ai)))
 (aq (aU (cq (ag (aL bJ (ag (jV 0) ai)) ai)) (gN 2)
  xH)
 (aF (jV 1))))
def xU:Qqk:=fn 4 Iq
def Cb:C.Dd:=⟨"_law_places",top 45,["_law_program_here"],["_law_program_here", "_law_found", "_law_n", "_law_m"],1,none,(.c (.l (.st 1 (.li (.c (.tu (.c (.uo .neg (.ki 1)) (.c (.ki 0) .n))) .n)))) (.c (.fo (.r1 (.c (.fb .len (.c (.v 0) .n)) .n)) (.n 2) (.o (.fo (.l (.ca 4 (.c (.v 0) (.c (.v 2) .n)))) (.n 3) (.o (.l (.ap 1 (.tu (.c (.v 2) (.c (.v 3) .n))))))))) (.o (.l (.rt (.v 1)))))),none⟩
def Qh:List C.Dd:=Cb::Qg
def S7:List C.FT:=.p xU::S6
def e40:C.tab Qh=S7:=C.bV e39 rfl rfl rfl
def JW:Qqq :=
 (aF (gM (ae aP (ae au (jV 0) (jC (.int 0))) (jC (.str "reckon"))) (ae gB (gR iL (jV 0) (gx (jC (.int 2))) iz) (jV 1))))
def oS:Qqk:=fn 2 JW
def Cd:C.Dd:=⟨"_law_has",top 46,["_law_row_here", "_law_deed"],["_law_row_here", "_law_deed"],0,none,(.o (.l (.rt (.an (.co .eq (.ix (.v 0) (.ki 0)) (.ks "reckon")) (.co .qx (.sl (.v 0) (.s (.ki 2)) .n) (.v 1)))))),none⟩
def Qi:List C.Dd:=Cd::Qh
def S8:List C.FT:=.p oS::S7
def e41:C.tab Qi=S8:=C.bV e40 rfl rfl rfl
def Ih:Qqq :=
 (aF (gM (ae (ft false) (ae au (jV 0) (jC (.int 0))) (aY (ag (jC (.str "reckon")) (ag (jC (.str "copy")) ai)))) (ae (ft false) (ae au (jV 0) (jC (.int 1))) (gR iL (jV 1) (gx (jC (.int 1))) iz))))
def tR:Qqk:=fn 2 Ih
def Ce:C.Dd:=⟨"_law_changes",top 47,["_law_row_here", "_law_deed"],["_law_row_here", "_law_deed"],0,none,(.o (.l (.rt (.an (.co .oF (.ix (.v 0) (.ki 0)) (.tu (.c (.ks "reckon") (.c (.ks "copy") .n)))) (.co .oF (.ix (.v 0) (.ki 1)) (.sl (.v 1) (.s (.ki 1)) .n)))))),none⟩
def Qj:List C.Dd:=Ce::Qi
def S9:List C.FT:=.p tR::S8
def e42:C.tab Qj=S9:=C.bV e41 rfl rfl rfl
def xO:Qqq :=
 (aM (cP (jB (ae aP (ae au (jV 2) (jC (.int 0))) (jC (.str "reckon")))) (jB (ae (pR true) (gR iL (jV 2) (gx (jC (.int 2))) iz) (jV 1))))
  (cE 1 (gR iL (jV 2) (gx (jC (.int 2))) iz))
  aR)
def IK:Qqq :=
 (aq (ax 1 (bL ai))
 (aq (bT 0 (aU (bK (jV 0)) (gN 2)
  xO))
 (aF (jV 1))))
def x4:Qqk:=fn 3 IK
def Cg:C.Dd:=⟨"_law_known",top 48,["_law_program_here"],["_law_program_here", "_law_found", "_law_row_here"],0,none,(.c (.l (.st 1 (.li .n))) (.c (.fz 0 (.fo (.l (.v 0)) (.n 2) (.o (.ie (.an (.c .eq (.ix (.v 2) (.ki 0)) (.ks "reckon")) (.c .Bi (.sl (.v 2) (.s (.ki 2)) .n) (.v 1))) (.o (.l (.ap 1 (.sl (.v 2) (.s (.ki 2)) .n)))) .n)))) (.o (.l (.rt (.v 1)))))),none⟩
def Qk:List C.Dd:=Cg::Qj
def Ta:List C.FT:=.p x4::S9
def e43:C.tab Qk=Ta:=C.bV e42 rfl rfl rfl
def Jk:Qqq :=
 (aF (aC xN (ag (jV 0) (ag (gR iL (jV 0) (gx (jC (.int 2))) (gx (jC (.int 22)))) ai))))
def ya:Qqk:=fn 1 Jk
def Ci:C.Dd:=⟨"_law_made",top 49,["_law_script"],["_law_script"],5,none,(.o (.l (.rt (.ca 4 (.c (.v 0) (.c (.sl (.v 0) (.s (.ki 2)) (.s (.ki 22))) .n)))))),none⟩
def Ql:List C.Dd:=Ci::Qk
def Tb:List C.FT:=.p ya::Ta
def e44:C.tab Ql=Tb:=C.bV e43 rfl rfl rfl
def xI:Qqq :=
 (aq (aM (cI (eO (jB (aL jw (ag (jV 5) (ag (jC (.ty "int")) ai))))) (cI (jB (aL jw (ag (jV 5) (ag (jC (.ty "bool")) ai)))) (jB (ae (ft true) (jV 5) (jV 4)))))
  (aF (jC (.bl false)))
  aR)
 (ax 4 (aC qF (ag (jV 0) (ag (jV 5) ai)))))
def CF:Qqq :=
 (aM (jB (aC oS (ag (ae au (jV 0) (jV 5)) (ag (jV 1) ai))))
  (aF (jC (.bl false)))
  aR)
def CK:Qqq :=
 (aq (aM (cI (eO (jB (aL jw (ag (jV 2) (ag (jC (.ty "list")) ai))))) (jB (ae jI (Bg (ag (jV 2) ai)) (aL bJ (ag (jV 2) ai)))))
  (aF (jC (.bl false)))
  aR)
 (aq (aM (jB (ae aP (jV 3) (cj fq (jC (.int 1)))))
  (aF (ae gB (jV 2) (bL ai)))
  aR)
 (aq (aM (cI (jB (ae aP (aL bJ (ag (jV 2) ai)) (jC (.int 0)))) (jB (ae jI (ae au (jV 2) (cj fq (jC (.int 1)))) (jV 3))))
  (aF (jC (.bl false)))
  aR)
 (aq (ax 4 (tf (ag (aL bJ (ag (jV 0) ai)) ai)))
 (aq (bT 2 (aU (bK (jV 2)) (gN 5)
  xI))
 (aq (aU (bK (gR iL (jV 2) (gx (jC (.int 1))) iz)) (gN 5)
  CF)
 (aq (ax 6 (ae au (jV 0) (ae au (jV 2) (jC (.int 0)))))
 (aF (lQ (aC tR (ag (jV 6) (ag (jV 1) ai))) (gM (ae aP (ae au (jV 2) (jC (.int 0))) (jC (.int 0))) (j5 (aC oS (ag (jV 6) (ag (jV 1) ai))))))))))))))
def oQ:Qqk:=fn 7 CK
def Cj:C.Dd:=⟨"_law_walked",top 50,["_law_program_here", "_law_deed", "_law_way", "_law_n"],["_law_program_here", "_law_deed", "_law_way", "_law_n", "_law_ahead", "_law_here", "_law_first"],1,none,(.c (.ie (.or (.nt (.b (.fb .oG (.c (.v 2) (.c (.ty "list") .n))))) (.c .ne (.ls (.c (.v 2) .n)) (.fb .len (.c (.v 2) .n)))) (.o (.l (.rt (.kb false)))) .n) (.c (.ie (.c .eq (.v 3) (.uo .neg (.ki 1))) (.o (.l (.rt (.co .qx (.v 2) (.li .n))))) .n) (.c (.ie (.or (.c .eq (.fb .len (.c (.v 2) .n)) (.ki 0)) (.c .ne (.ix (.v 2) (.uo .neg (.ki 1))) (.v 3))) (.o (.l (.rt (.kb false)))) .n) (.c (.l (.st 4 (.lr (.c (.fb .len (.c (.v 0) .n)) .n)))) (.c (.fz 2 (.fo (.l (.v 2)) (.n 5) (.c (.ie (.or (.nt (.b (.fb .oG (.c (.v 5) (.c (.ty "int") .n))))) (.or (.b (.fb .oG (.c (.v 5) (.c (.ty "bool") .n)))) (.c .wN (.v 5) (.v 4)))) (.o (.l (.rt (.kb false)))) .n) (.o (.l (.st 4 (.ca 9 (.c (.v 0) (.c (.v 5) .n))))))))) (.c (.fo (.l (.sl (.v 2) (.s (.ki 1)) .n)) (.n 5) (.o (.ie (.b (.ca 3 (.c (.ix (.v 0) (.v 5)) (.c (.v 1) .n)))) (.o (.l (.rt (.kb false)))) .n))) (.c (.l (.st 6 (.ix (.v 0) (.ix (.v 2) (.ki 0))))) (.o (.l (.rt (.or (.ca 2 (.c (.v 6) (.c (.v 1) .n))) (.an (.co .eq (.ix (.v 2) (.ki 0)) (.ki 0)) (.nt (.ca 3 (.c (.v 6) (.c (.v 1) .n)))))))))))))))),none⟩
def Qm:List C.Dd:=Cj::Ql
def Tc:List C.FT:=.p oQ::Tb
def e45:C.tab Qm=Tc:=C.bV e44 rfl rfl rfl
def xV:Qqq :=
 (aM (cP (jB (ae aP (ae au (jV 6) (jC (.int 1))) (jV 5))) (jB (ae aP (ae gX (ae mM (jn (jV 3) (jV 6)) (jV 2)) (jC (.int 1))) (jC (.int 0)))))
  (aF (jC (.bl false)))
  aR)
def Jl:Qqq :=
 (aq (aM (cI (jB (ae aP (jV 5) (cj fq (jC (.int 1))))) (jB (aC tR (ag (ae au (jV 0) (jV 5)) (ag (jV 1) ai)))))
  (aF (jC (.bl false)))
  aR)
 (aq (aM (jB (aC oS (ag (ae au (jV 0) (jV 5)) (ag (jV 1) ai))))
  (aF (jC (.bl true)))
  aR)
 (aq (bT 4 (aU (bK (jV 4)) (gN 6)
  xV))
 (aF (jC (.bl true))))))
def ud:Qqk:=fn 7 Jl
def Ck:C.Dd:=⟨"_law_came",top 51,["_law_program_here", "_law_deed", "_law_k", "_law_stood", "_law_spots", "_law_n"],["_law_program_here", "_law_deed", "_law_k", "_law_stood", "_law_spots", "_law_n", "_law_spot"],1,none,(.c (.ie (.or (.c .eq (.v 5) (.uo .neg (.ki 1))) (.b (.ca 3 (.c (.ix (.v 0) (.v 5)) (.c (.v 1) .n))))) (.o (.l (.rt (.kb false)))) .n) (.c (.ie (.b (.ca 4 (.c (.ix (.v 0) (.v 5)) (.c (.v 1) .n)))) (.o (.l (.rt (.kb true)))) .n) (.c (.fz 4 (.fo (.l (.v 4)) (.n 6) (.o (.ie (.an (.c .eq (.ix (.v 6) (.ki 1)) (.v 5)) (.c .eq (.bo .band (.bo .shr (.tg (.v 3) (.v 6)) (.v 2)) (.ki 1)) (.ki 0))) (.o (.l (.rt (.kb false)))) .n)))) (.o (.l (.rt (.kb true))))))),none⟩
def Qn:List C.Dd:=Ck::Qm
def Td:List C.FT:=.p ud::Tc
def e46:C.tab Qn=Td:=C.bV e45 rfl rfl rfl
def yB:Qqq :=
 (aM (cI (eO (jB (aL jw (ag (jn (jV 4) (jV 5)) (ag (jC (.ty "int")) ai))))) (eO (jB (nB ql gF (jC (.int 0)) (jn (jV 4) (jV 5)) (ae pI (jC (.int 1)) (aL bJ (ag (jV 3) ai)))))))
  (aF (jC (.bl false)))
  aR)
def uH:Qqq :=
 (aq (ax 8 (aC oP (ag (jV 1) (ag (jV 6) (ag (jV 5) ai)))))
 (aM (jB (ae aP (ae gX (ae mM (jn (jV 4) (jV 5)) (jV 6)) (jC (.int 1))) (jC (.int 0))))
  (aM (eO (jB (aC oQ (ag (jV 1) (ag (jV 7) (ag (jV 8) (ag (ae au (jV 5) (jC (.int 0))) ai)))))))
  (aF (jC (.bl false)))
  aR)
  (aM (cI (jB (ae lu (jV 8) (jC .non))) (eO (jB (aC ud (ag (jV 1) (ag (jV 7) (ag (jV 6) (ag (jV 4) (ag (jV 2) (ag (ae au (jV 5) (jC (.int 0))) ai))))))))))
  (aF (jC (.bl false)))
  aR)))
def DB:Qqq :=
 (bT 2 (aU (bK (jV 2)) (gN 5)
  uH))
def OO:Qqq :=
 (aq (ax 1 (aC ya (ag (jV 0) ai)))
 (aq (ax 2 (aC xU (ag (jV 1) ai)))
 (aq (ax 3 (aC x4 (ag (jV 1) ai)))
 (aq (ax 4 (aC uc (ag (jV 1) ai)))
 (aq (aM (cI (eO (jB (aL jw (ag (jV 4) (ag (jC (.ty "dict")) ai))))) (jB (ae iA (aL nE (ag (jV 4) ai)) (aL nE (ag (jV 2) ai)))))
  (aF (jC (.bl false)))
  aR)
 (aq (bT 2 (aU (bK (jV 2)) (gN 5)
  yB))
 (aq (bT 3 (aU (gj (ag (jV 3) ai)) (gT 2 (bR (gN 6) (bR (gN 7) dX)))
  DB))
 (aF (jC (.bl true))))))))))
def zq:Qqk:=fn 9 OO
def Cm:C.Dd:=⟨"law",top 52,["_law_script"],["_law_script", "_law_program_here", "_law_spots", "_law_known_here", "_law_stood", "_law_spot", "_law_k", "_law_deed", "_law_way"],6,none,(.c (.l (.st 1 (.ca 2 (.c (.v 0) .n)))) (.c (.l (.st 2 (.ca 6 (.c (.v 1) .n)))) (.c (.l (.st 3 (.ca 3 (.c (.v 1) .n)))) (.c (.l (.st 4 (.ca 28 (.c (.v 1) .n)))) (.c (.ie (.or (.nt (.b (.fb .oG (.c (.v 4) (.c (.ty "dict") .n))))) (.c .qy (.fb .vi (.c (.v 4) .n)) (.fb .vi (.c (.v 2) .n)))) (.o (.l (.rt (.kb false)))) .n) (.c (.fz 2 (.fo (.l (.v 2)) (.n 5) (.o (.ie (.or (.nt (.b (.fb .oG (.c (.tg (.v 4) (.v 5)) (.c (.ty "int") .n))))) (.nt (.h .le .lt (.ki 0) (.tg (.v 4) (.v 5)) (.bo .shl (.ki 1) (.fb .len (.c (.v 3) .n)))))) (.o (.l (.rt (.kb false)))) .n)))) (.c (.fz 3 (.fo (.en (.c (.v 3) .n)) (.t 2 (.c (.n 6) (.c (.n 7) .n))) (.o (.fz 2 (.fo (.l (.v 2)) (.n 5) (.c (.l (.st 8 (.ca 27 (.c (.v 1) (.c (.v 6) (.c (.v 5) .n)))))) (.o (.ie (.c .eq (.bo .band (.bo .shr (.tg (.v 4) (.v 5)) (.v 6)) (.ki 1)) (.ki 0)) (.o (.ie (.nt (.b (.ca 1 (.c (.v 1) (.c (.v 7) (.c (.v 8) (.c (.ix (.v 5) (.ki 0)) .n))))))) (.o (.l (.rt (.kb false)))) .n)) (.o (.ie (.or (.c .qw (.v 8) .kn) (.nt (.b (.ca 0 (.c (.v 1) (.c (.v 7) (.c (.v 6) (.c (.v 4) (.c (.v 2) (.c (.ix (.v 5) (.ki 0)) .n)))))))))) (.o (.l (.rt (.kb false)))) .n)))))))))) (.o (.l (.rt (.kb true))))))))))),none⟩
def zU:List C.Dd:=Cm::Qn
def t47:List C.FT:=.p zq::Td
def e47:C.tab zU=t47:=C.bV e46 rfl rfl rfl
def ok:C.zp bs gs zU=true:=by decide +kernel
def ad5:C.BA d1.nm d1.st d1.ps:=C.fT λ_ _ _ _ _ _ _=>rfl
def ad6:C.BA d2.nm d2.st d2.ps:=C.fT λ_ _ _ _ _ _ _=>rfl
def ad7:C.BA d3.nm d3.st d3.ps:=C.fJ λ_ _ _ _ _ _ _ _=>rfl
def ad8:C.BA d4.nm d4.st d4.ps:=C.fJ λ_ _ _ _ _ _ _ _=>rfl
def ad9:C.BA d5.nm d5.st d5.ps:=C.fT λ_ _ _ _ _ _ _=>rfl
def aea:C.BA d6.nm d6.st d6.ps:=C.fT λ_ _ _ _ _ _ _=>rfl
def aeb:C.BA d7.nm d7.st d7.ps:=C.fT λ_ _ _ _ _ _ _=>rfl
def aec:C.BA d8.nm d8.st d8.ps:=C.fT λ_ _ _ _ _ _ _=>rfl
def aed:C.BA d9.nm d9.st d9.ps:=C.fT λ_ _ _ _ _ _ _=>rfl
def acz:C.BA Bz.nm Bz.st Bz.ps:=C.fT λ_ _ _ _ _ _ _=>rfl
def acA:C.BA BD.nm BD.st BD.ps:=C.fT λ_ _ _ _ _ _ _=>rfl
def acB:C.BA BE.nm BE.st BE.ps:=C.fT λ_ _ _ _ _ _ _=>rfl
def acC:C.BA BF.nm BF.st BF.ps:=C.R0 λ_ _ _ _ _ _ _ _ _=>rfl
def acD:C.BA BG.nm BG.st BG.ps:=C.Bu λ_ _ _ _ _ _ _ _ _ _=>rfl
def acE:C.BA BH.nm BH.st BH.ps:=C.fJ λ_ _ _ _ _ _ _ _=>rfl
def acF:C.BA BI.nm BI.st BI.ps:=C.Bu λ_ _ _ _ _ _ _ _ _ _=>rfl
def acG:C.BA BJ.nm BJ.st BJ.ps:=C.fT λ_ _ _ _ _ _ _=>rfl
def acH:C.BA BK.nm BK.st BK.ps:=C.fT λ_ _ _ _ _ _ _=>rfl
def acI:C.BA BL.nm BL.st BL.ps:=C.R0 λ_ _ _ _ _ _ _ _ _=>rfl
def acJ:C.BA BM.nm BM.st BM.ps:=C.fJ λ_ _ _ _ _ _ _ _=>rfl
def acK:C.BA BO.nm BO.st BO.ps:=C.fJ λ_ _ _ _ _ _ _ _=>rfl
def acL:C.BA BP.nm BP.st BP.ps:=C.fT λ_ _ _ _ _ _ _=>rfl
def acM:C.BA BQ.nm BQ.st BQ.ps:=C.fT λ_ _ _ _ _ _ _=>rfl
def acN:C.BA BR.nm BR.st BR.ps:=C.fJ λ_ _ _ _ _ _ _ _=>rfl
def acO:C.BA BU.nm BU.st BU.ps:=C.fJ λ_ _ _ _ _ _ _ _=>rfl
def acP:C.BA BV.nm BV.st BV.ps:=C.Bu λ_ _ _ _ _ _ _ _ _ _=>rfl
def acQ:C.BA BW.nm BW.st BW.ps:=C.fJ λ_ _ _ _ _ _ _ _=>rfl
def acR:C.BA BX.nm BX.st BX.ps:=C.fJ λ_ _ _ _ _ _ _ _=>rfl
def acS:C.BA BZ.nm BZ.st BZ.ps:=C.fJ λ_ _ _ _ _ _ _ _=>rfl
def acT:C.BA B1.nm B1.st B1.ps:=C.fJ λ_ _ _ _ _ _ _ _=>rfl
def acU:C.BA B2.nm B2.st B2.ps:=C.fJ λ_ _ _ _ _ _ _ _=>rfl
def acV:C.BA B3.nm B3.st B3.ps:=C.fJ λ_ _ _ _ _ _ _ _=>rfl
def acW:C.BA B4.nm B4.st B4.ps:=C.fJ λ_ _ _ _ _ _ _ _=>rfl
def acX:C.BA B5.nm B5.st B5.ps:=C.BA5 λ_ _ _ _ _ _ _ _ _ _ _=>rfl
def acY:C.BA B6.nm B6.st B6.ps:=C.fJ λ_ _ _ _ _ _ _ _=>rfl
def acZ:C.BA B7.nm B7.st B7.ps:=C.fJ λ_ _ _ _ _ _ _ _=>rfl
def ac0:C.BA B8.nm B8.st B8.ps:=C.fT λ_ _ _ _ _ _ _=>rfl
def ac1:C.BA B9.nm B9.st B9.ps:=C.fJ λ_ _ _ _ _ _ _ _=>rfl
def ac2:C.BA Ca.nm Ca.st Ca.ps:=C.fJ λ_ _ _ _ _ _ _ _=>rfl
def ac3:C.BA Cb.nm Cb.st Cb.ps:=C.fT λ_ _ _ _ _ _ _=>rfl
def ac4:C.BA Cd.nm Cd.st Cd.ps:=C.fJ λ_ _ _ _ _ _ _ _=>rfl
def ac5:C.BA Ce.nm Ce.st Ce.ps:=C.fJ λ_ _ _ _ _ _ _ _=>rfl
def ac6:C.BA Cg.nm Cg.st Cg.ps:=C.fT λ_ _ _ _ _ _ _=>rfl
def ac7:C.BA Ci.nm Ci.st Ci.ps:=C.fT λ_ _ _ _ _ _ _=>rfl
def ac8:C.BA Cj.nm Cj.st Cj.ps:=C.Bu λ_ _ _ _ _ _ _ _ _ _=>rfl
def ac9:C.BA Ck.nm Ck.st Ck.ps:=C.BA6 λ_ _ _ _ _ _ _ _ _ _ _ _=>rfl
def ada:C.BA Cm.nm Cm.st Cm.ps:=C.fT λ_ _ _ _ _ _ _=>rfl
def ba:C.Bv zU:=⟨ada,ac9,ac8,ac7,ac6,ac5,ac4,ac3,ac2,ac1,ac0,acZ,acY,acX,acW,acV,acU,acT,acS,acR,acQ,acP,acO,acN,acM,acL,acK,acJ,acI,acH,acG,acF,acE,acD,acC,acB,acA,acz,aed,aec,aeb,aea,ad9,ad8,ad7,ad6,ad5,trivial⟩
end aN
namespace aN
open PySem L2 J
local macro_rules|`($m \ $x)=>`(some ($m,$x))
local macro_rules|`($f∘$x)=>`(D.lst (($x).map $f))
local macro_rules|`(↥$x)=>`(D.int (($x):Int))
local macro_rules|`(tactic|simp! [$xs,*])=>`(tactic|simp -implicitDefEqProofs only [$xs,*])
local macro_rules|`(tactic|simp! [$xs,*]$l:location)=>`(tactic|simp -implicitDefEqProofs only [$xs,*]$l:location)
local macro_rules|`(∅)=>`((by omega))
def gz{α:Type}{a:α}{l:List α}:(a::l)[0]?=some a:=rfl
def gy{α:Type}{a:α}{l:List α}{i:Nat}:(a::l)[i+1]?=l[i]?:=List.getElem?_cons_succ
def oq{α β:Type}{a:α}{f:α→Option β}:(some a).bind f=f a:=rfl
def tz{α:Type}{a b:α}{l:List α}:(a::l).set 0 b=b::l:=rfl
def tq{α:Type}{a b:α}{l:List α}{i:Nat}:(a::l).set (i+1) b=a::l.set i b:=rfl
def mq{α β:Type}{a:α}{l:List α}{f:α→β}:(a::l).map f=f a::l.map f:=rfl
def mn{α β:Type}{f:α→β}:[].map f=[]:=rfl
def oy{α β:Type}{a:α}{f:α→β}:(some a).map f=some (f a):=rfl
def ln{α β:Type}{l:List α}{f:α→β}:(l.map f).length=l.length:=eU _
def cv{d:D}{ds:Qzz}{n:Nat}:((d::ds).map (λd=>some (M.al,d))++List.replicate (n+1-(d::ds).length) none:Ev)=.al\d::(ds.map (λd=>some (M.al,d))++List.replicate (n-ds.length) none):=by simp
def bD{n:Nat}:(([]:Qzz).map (λd=>some (M.al,d))++List.replicate (n+1-([]:Qzz).length) none:Ev)=none::(([]:Qzz).map (λd=>some (M.al,d))++List.replicate (n-([]:Qzz).length) none):=rfl
def bG:(([]:Qzz).map (λd=>some (M.al,d))++List.replicate (0-([]:Qzz).length) none:Ev)=[]:=rfl
def an{a b:Prop}(x:a)(y:b):a∧b:=⟨x,y⟩
def evs :=
 an @iT<|an @iu<|an @zh<|an @Oo<|an @DW<|an @yJ<|an @Ek<|an @El<|an @pv<|an @lz<|an @cZ<|an @dE<|an @acd<|an @bN<|an @lj<|an @mr<|an @Lp<|an @mv<|an @uN<|an @uO<|an @uP<|an @iq<|an @uQ<|an @pP<|an @Pn<|an @gw<|an @yK<|an @aar<|an @pf<|an @Bool.and_self<|an @Bool.and_true<|an @Bool.true_and<|an @Bool.false_eq_true<|an @decide_true<|an @decide_false<|an @Bool.not_true<|an @Bool.not_false<|an @szT<|an @mul_r<|an @oZ<|an @div_ii<|an @ab9<|an @CL<|an @Ij<|an @aq.eq_1<|an @aM.eq_1<|an @jB.eq_1<|an @ae.eq_1<|an @cj.eq_1<|an @jV.eq_1<|an @aL.eq_1<|an @ag.eq_1<|an @ai.eq_1<|an @aF.eq_1<|an @ax.eq_1<|an @aR.eq_1<|an @jC.eq_1<|an @aC.eq_1<|an @gM.eq_1<|an @lQ.eq_1<|an @j5.eq_1<|an @cP.eq_1<|an @cI.eq_1<|an @eO.eq_1<|an @rR.eq_1<|an @aY.eq_1<|an @bL.eq_1<|an @ly.eq_1<|an @iR.eq_1<|an @cE.eq_1<|an @fD.eq_1<|an @pM.eq_1<|an @gL.eq_1<|an @bT.eq_1<|an @aZ.eq_1<|an @aU.eq_1<|an @bK.eq_1<|an @cq.eq_1<|an @dZ.eq_1<|an @gN.eq_1<|an @fu.eq_1<|an @List.map_cons.{0,0} <| an @List.map_nil.{0,0} <| an @List.length_cons.{0} <| an @List.length_nil.{0} <| an @List.cons_append.{0} <| an @List.nil_append.{0} <| an @List.getElem?_cons_zero.{0} <| an @List.getElem?_cons_succ.{0} <| an @List.set_cons_zero.{0} <| an @List.set_cons_succ.{0} <| an @List.all_cons.{0} <| an @List.all_nil.{0} <| an @Option.bind_some.{0,0} <| an @Option.bind_none.{0,0} <| an @Option.map_some.{0,0} <| an @Option.map_none.{0,0} <| an @id_eq.{1} <| an @if_true.{1} <| an @if_false.{1} <| an @List.length_map.{0,0} <| an @and_self<|an @and_true<|an @true_and<|an @ne_eq.{1} <| an @not_false_eq_true<|an @gR.eq_1<|an @gx.eq_1<|an @iz.eq_1<|an @nB.eq_1 @GY.eq_1
local macro_rules|`(tactic| symm)=>`(tactic| simp! [evs,bR,dX,cf,own,E6,fL,List.replicate,reduceIte,reduceCtorEq,Nat.reduceAdd,Nat.reduceSub,Nat.reduceLeDiff,Int.reducePow,Int.reduceNeg,Int.reduceLT,Int.reduceLE,Int.reduceToNat,Nat.reduceLT,Int.reduceEq,Int.reduceSub,Int.reduceAdd])
local macro_rules|`(tactic| nofun)=>`(tactic| ((try symm);repeat ((first|rw[div_ii ∅]|rw[oZ ∅]|rw[mul_r ∅]|rw[Ej ∅]|rw[mul_r (by split<;>omega)]);try symm)))
local macro_rules|`(tactic| ac_rfl)=>`(tactic| first|assumption | (with_reducible first|exact DW|exact yJ|exact Ek|exact pv|exact El|exact iT|exact iu|exact oZ ∅|exact div_ii ∅|exact mul_r ∅|exact Ej ∅|exact adb|exact dE|exact rE (by assumption)|exact gS _ _ _) | ((with_reducible first|apply o2|apply cn|apply cb|apply ca|apply se|apply tu|apply u1|apply li|apply re|apply ap|apply fz|apply eba|apply ebr|apply bl|apply bn)<;>ac_rfl)|exact tp3 _ _|exact tp2 _|exact D4 _ _|exact DC _ _|exact yb _ _|exact yC _|exact Yo _|rfl | (apply bo<;>ac_rfl) | (apply Fq;(· first|rfl|assumption|omega|exact qX _|decide);(· ac_rfl)))
local macro_rules|`(tactic| infer_instance)=>`(tactic| first | (apply bl;(· ac_rfl);(· first|exact decide_eq_true (by assumption)|exact decide_eq_false (by assumption)|rfl|assumption|exact(sg _).trans (by assumption)|exact(Fs _).trans (by assumption)|exact(zV _).trans (by assumption))) | (with_reducible apply bof;(· infer_instance);(· infer_instance)) | (with_reducible apply bot;infer_instance) | (with_reducible apply bat;(· infer_instance);(· infer_instance)) | (with_reducible apply baf;infer_instance) | (with_reducible apply bn;(· infer_instance);(· rfl)))
def bo{α β:Type}{o:Option α}{a:α}{k:α→Option β}{r:Option β}(h:o=some a)(h2:k a=r):o.bind k=r:=by rw[h];exact h2
theorem bl{f:Qqj}{e:Ev}{m:M}{b c:Bool}(h:f e=some (m,.bl b))(h2:b=c):jB f e=some c:=bo h (de some h2)
def o2{g:M×D→M×D→Qzq}{fa fb:Qqj}{e:Ev}{x y:M×D}{r:Qzq}(h:fa e=some x)(h2:fb e=some y)(h3:g x y=r):ae g fa fb e=r:=bo h (bo h2 h3)
def u1{g:M×D→Qzq}{f:Qqj}{e:Ev}{x:M×D}{r:Qzq}(h:f e=some x)(h2:g x=r):cj g f e=r:=bo h h2
def cn{f:Qqj}{g:Qqz}{e:Ev}{x:M×D}{l:List (M×D)}(h:f e=some x)(h2:g e=some l):ag f g e=some (x::l):=bo h (bo h2 rfl)
def cb{g:List (M×D)→Qzq}{fs:Qqz}{e:Ev}{l:List (M×D)}{r:Qzq}(h:fs e=some l)(h2:g l=r):aL g fs e=r:=bo h h2
def ca{F:Qqk}{fs:Qqz}{e:Ev}{xs:List (M×D)}{r:Qzq}(h:fs e=some xs)(h2:F (xs.map (·.2))=r):aC F fs e=r:=bo h h2
def tu{fs:Qqz}{e:Ev}{l:List (M×D)}{r:Qzq}(h:fs e=some l)(h2:ly l=r):aY fs e=r:=bo h h2
def li{fs:Qqz}{e:Ev}{l:List (M×D)}{r:Qzq}(h:fs e=some l)(h2:iR l=r):bL fs e=r:=bo h h2
def se{i:Nat}{f:Qqj}{e e':Ev}{x y:M×D}(h:f e=some x)(h2:nC x=some y)(h3:e.set i (some y)=e'):ax i f e=some (.nx e'):=bo h (bo h2 (by rw[h3]))
def re{f:Qqj}{e:Ev}{m:M}{d:D}(h:f e=some (m,d)):aF f e=some (.rt e m d):=bo h rfl
def Fq{c:Prop}[Decidable c]{α:Type}{x y r:α}(h:c)(h2:x=r):(if c then x else y)=r:=by rw[if_pos h];exact h2
def ap{i:Nat}{f:Qqj}{e e':Ev}{x:M×D}{y:M×Qzz}(h:f e=some x)(h1:cY x.1 x.2=true)(h2:dZ i e=some y)(h3:y.2.length<sizeLine)(h4:e.set i (some (y.1,.lst (y.2++[x.2])))=e'):cE i f e=some (.nx e'):=bo h (Fq h1 (bo h2 (Fq h3 (by rw[h4]))))
def fz{i:Nat}{g:Qqq}{e e':Ev}{r:Option Fl}(h:aZ i e=e')(h2:g e'=r):bT i g e=r:=by unfold bT;rw[h];exact h2
def eba{f g:Qqx}{e:Ev}{b c:Bool}(h:f e=some b)(h2:g e=some c):cP f g e=some (b&&c):=bo h (by cases b;rfl;exact h2)
def ebr{f g:Qqx}{e:Ev}{b c:Bool}(h:f e=some b)(h2:g e=some c):cI f g e=some (b||c):=bo h (by cases b;exact h2;rfl)
def baf{f g:Qqx}{e:Ev}(h:f e=some false):cP f g e=some false:=bo h rfl
def bat{f g:Qqx}{e:Ev}{c:Bool}(h:f e=some true)(h2:g e=some c):cP f g e=some c:=bo h h2
def bot{f g:Qqx}{e:Ev}(h:f e=some true):cI f g e=some true:=bo h rfl
def bof{f g:Qqx}{e:Ev}{c:Bool}(h:f e=some false)(h2:g e=some c):cI f g e=some c:=bo h h2
def bn{f:Qqx}{e:Ev}{b c:Bool}(h:f e=some b)(h2:(!b)=c):eO f e=some c:=bo h (de some h2)
def rE{ds:Qzz}{k:Int}{d:D}{m n:M}(h:L2.bp ds k=some d):au (m,.lst ds) (n,.int k)=some (bf m,d):=by rw[cZ,h];rfl
def adb{α:Type}{l:List α}{f:α→D}{m:M}:bJ [(m,f∘l)]=some (.fr,.int (l.length:Int)):=by rw[dE,ln]
def fU{c:Qqx}{f g:Qqq}{e:Ev}(h:c e=some false):aq (aM c f aR) g e=g e:=by simp[aq,aM,h,aR]
noncomputable abbrev AB:Str := "abcdefghijklmnopqrstuvwxyz"
def D5(x y:Str):(x++y).length=x.length+y.length:=by
 show(x.cps++y.cps).size=_;rw[Array.size_append];rfl
def oX(ns:Qxk)(k:Int)(h0:0≤k):∃c,kY [.int∘ns,.int k]=some (.fr,.int c):=by
 unfold kY fn Jh;symm;by_cases h:k<ns.length
 ·let⟨c,hc⟩:=Kj h0 h;refine⟨c,?_⟩;simp only[h,hc];symm;simp only[M5,pP]
 ·simp only[h];nofun;exact⟨_,rfl⟩
def oV(c k:Int):∃x,kW [.int c,.int k]=some (.fr,.int x):=by
 unfold kW fn IE;nofun;exact⟨_,rfl⟩
def DF(ns:Qxk):∃b,qH [.int∘ns]=some (.fr,.bl b):=by
 let⟨c,hc⟩:=oX ns 0 ∅;unfold qH fn Ib;symm;rw[hc];nofun;exact⟨_,rfl⟩
def Wu(c sz a k j:Int)(L:Qzq)(z:Str)(o:Qzq)(hz:z.length≤20)(h0:0≤j)(h1:j<9) :
  ∃z' o',tP [.fr\.int c,.fr\.str AB,.fr\.int sz,.fr\.int a,L,.fr\.int k,.fr\.str z,.fr\.int j,o]=some (.nx [.fr\.int c,.fr\.str AB,.fr\.int sz,.fr\.int a,L,.fr\.int k,.fr\.str z',.fr\.int j,o'])∧z'.length≤z.length+1:=by
 let sab:AB.length≤sizeLine:=by decide
 let la:AB.cps.toList.length=26:=by decide +kernel
 let lb:(AB++("0123456789" : Str)).cps.toList.length=36:=by decide +kernel
 let sb:(AB++("0123456789" : Str)).length≤sizeLine:=by decide +kernel
 let sc:AB.length+("0123456789" : Str).length≤sizeLine:=by decide
 let h8:tP [.fr\.int c,.fr\.str AB,.fr\.int sz,.fr\.int a,L,.fr\.int k,.fr\.str z,.fr\.int j,o] =
  (aM (cI (jB (ae aP (jV 7) (jV 3))) (jB (ae aP (jV 7) (jC (.int 0)))))
   (ax 6 (ae bW (jV 6) (ae au (jV 1) (ae bh (ae bW (jV 8) (ae fZ (jV 5) (aL nU (ag (ae aP (jV 7) (jV 3)) ai)))) (jC (.int 26))))))
   (ax 6 (ae bW (jV 6) (ae au (ae bW (jV 1) (jC (.str "0123456789"))) (ae bh (jV 8) (jC (.int 36)))))))
   [.fr\.int c,.fr\.str AB,.fr\.int sz,.fr\.int a,L,.fr\.int k,.fr\.str z,.fr\.int j,.fr\.int (c/192/(j+1)+5*j)]:=by
  unfold tP;refine av ?_
  ac_rfl
 rw[h8];generalize c/192/(j+1)+5*j=st;let fin:∀d,J.One d→∃y:Str,d=.str y∧y.length=1:=λd ⟨cc,e⟩=>⟨_,e,rfl⟩;let hc:∃b,(cI (jB (ae aP (jV 7) (jV 3))) (jB (ae aP (jV 7) (jC (.int 0))))) [.fr\.int c,.fr\.str AB,.fr\.int sz,.fr\.int a,L,.fr\.int k,.fr\.str z,.fr\.int j,.fr\.int st]=some b:=by
  symm;by_cases q:j=a
  ·simp only[q,decide_true];exact⟨_,rfl⟩
  ·simp only[q,decide_false];exact⟨_,rfl⟩
 let⟨b,hb⟩:=hc;cases b with
 |true =>
  rw[bF hb];let hm:∀i:Int,∃y:Str,au (.fr,.str AB) (.fr,.int (i%26))=.fr\.str y∧y.length=1:=λi=>by
   let⟨d,e,od⟩:=Dw (m:=.fr) (n:=.fr) (x:=AB) (i:=i%26) sab ∅ (by rw[la];omega);let⟨y,rfl,hy⟩:=fin d od;exact⟨y,e,hy⟩
  nofun;let⟨y,e,hy⟩:=hm (st+k*if decide (j=a)=true then 1 else 0);rw[e];symm;rw[yI (by rw[hy];exact dM (show z.length+1≤21 by omega) (by decide))];symm;exact⟨_,_,rfl,by rw[D5];omega⟩
 |false =>
  rw[bE hb];symm;rw[yI sc];nofun;let⟨d,e,od⟩:=Dw (m:=.fr) (n:=.fr) (x:=AB++("0123456789" : Str)) (i:=st%36) sb ∅ (by rw[lb];omega);let⟨y,rfl,hy⟩:=fin d od;rw[e];symm;rw[yI (by rw[hy];exact dM (show z.length+1≤21 by omega) (by decide))];symm;exact⟨_,_,rfl,by rw[D5];omega⟩
def Wv(c sz a k:Int)(fs:Qjz)(o6 o7 o8:Qzq)(hs:0≤sz∧sz≤8)(hf:fs.length≤50) :
  ∃z bU eW,xJ [.fr\.int c,.fr\.str AB,.fr\.int sz,.fr\.int a,.bo\.str∘fs,.fr\.int k,o6,o7,o8]=some (.nx [.fr\.int c,.fr\.str AB,.fr\.int sz,.fr\.int a,.bo\.lst ((fs++[z]).map .str),.fr\.int k,.fr\.str z,bU,eW])∧z.length≤20:=by
 let⟨e',l1,z,bU,eW,he,hz⟩:=du (g:=gN 7) (b:=tP) (m:=.fr) (ds:=cu 0 sz.toNat) (e:=[.fr\.int c,.fr\.str AB,.fr\.int sz,.fr\.int a,.bo\.str∘fs,.fr\.int k,.fr\.str "",o7,o8])
  (λi e=>∃(z:Str) (o7 o8:Qzq),e=[.fr\.int c,.fr\.str AB,.fr\.int sz,.fr\.int a,.bo\.str∘fs,.fr\.int k,.fr\.str z,o7,o8]∧z.length≤i) ⟨"",o7,o8,rfl,aW _⟩
  (λi d e hd bu=>by
   let⟨z,o7,o8,he,hz⟩:=bu;subst he;let⟨hi,rfl⟩:=mB hd;let⟨z',o',q,hl⟩:=Wu c sz a k (0+(i:Int)) (.bo\.str∘fs) z o8 ∅ ∅ ∅;exact⟨_,_,rfl,q,z',_,o',rfl,by omega⟩)
 subst he;rw[k6]at hz;let hz8:z.length≤8:=by omega
 unfold xJ;rw[av (e':=[.fr\.int c,.fr\.str AB,.fr\.int sz,.fr\.int a,.bo\.str∘fs,.fr\.int k,.fr\.str "",o7,o8]) rfl];rw[av (e':=[.fr\.int c,.fr\.str AB,.fr\.int sz,.fr\.int a,.bo\.str∘fs,.fr\.int k,.fr\.str z,bU,eW]) (by
  let cQ:-4611686018427387904≤sz∧sz<4611686018427387904:=by omega
  simp! [aU,cq,ag,ai,jV,gz,gy,id_eq,oq,cQ,and_self,if_true];exact l1)]
 let s5:fs.length<sizeLine:=eD hf (by decide);let hb:∃b,(jB (ae (ft false) (jV 6) (aY (ag (jC (.str "say")) (ag (jC (.str "go")) (ag (jC (.str "part")) (ag (jC (.str "end")) ai))))))) [.fr\.int c,.fr\.str AB,.fr\.int sz,.fr\.int a,.bo\.str∘fs,.fr\.int k,.fr\.str z,bU,eW]=some b:=⟨eE (.str z) [.str "say",.str "go",.str "part",.str "end"],by with_unfolding_all rfl⟩;let⟨b,hb⟩:=hb;cases b with
 |false =>
  rw[av (e':=[.fr\.int c,.fr\.str AB,.fr\.int sz,.fr\.int a,.bo\.str∘fs,.fr\.int k,.fr\.str z,bU,eW]) (by rw[bE hb];rfl)];refine⟨z,bU,eW,?_,by omega⟩;simp! [cE,jV,gz,gy,id_eq,oq,iq,if_true,dZ,own,ln,s5,tz,tq,List.map_append,mq,mn]
 |true =>
  let s1:z.length+("1" : Str).length≤sizeLine:=dM (show z.length+1≤9 by omega) (by decide);rw[av (e':=[.fr\.int c,.fr\.str AB,.fr\.int sz,.fr\.int a,.bo\.str∘fs,.fr\.int k,.fr\.str (z ++ "1"),bU,eW]) (by
   rw[bF hb];simp! [ax,ae,jV,jC,gz,gy,id_eq,oq,yI s1,mr,tz,tq])]
  refine⟨z ++ "1",bU,eW,?_,by
   rw[D5];have:("1" : Str).length=1:=rfl;omega⟩
  simp! [cE,jV,gz,gy,id_eq,oq,iq,if_true,dZ,own,ln,s5,tz,tq,List.map_append,mq,mn]
def C6(c:Int):∃fs:Qjz,(3≤fs.length∧fs.length≤5)∧qJ [.int c]=some (.un,.str∘fs):=by
 let⟨x,hx⟩:=oV c 3;let⟨e',l1,fs,o5,o6,o7,o8,he,hl⟩:=du (g:=gN 5) (b:=xJ) (m:=.fr) (ds:=cu 0 (3+x/64%3).toNat) (e:=[.fr\.int x,.fr\.str AB,.fr\.int (1+x%8),.fr\.int (x/8%(1+x%8)),.bo\.lst [],none,none,none,none])
  (λi e=>∃(fs:Qjz) (o5 o6 o7 o8:Qzq),e=[.fr\.int x,.fr\.str AB,.fr\.int (1+x%8),.fr\.int (x/8%(1+x%8)),.bo\.str∘fs,o5,o6,o7,o8]∧fs.length=i) ⟨[],none,none,none,none,rfl,rfl⟩
  (λi d e hd bu=>by
   let⟨fs,o5,o6,o7,o8,he,hl⟩:=bu;subst he;let⟨hi,rfl⟩:=mB hd;let⟨z,bU,eW,q,hz⟩:=Wv x (1+x%8) (x/8%(1+x%8)) (0+(i:Int)) fs o6 o7 o8 ∅ ∅;exact⟨_,_,rfl,q,fs++[z],_,_,bU,eW,rfl,by simp[hl]⟩)
 subst he;rw[k6]at hl;refine⟨fs,by omega,?_⟩;unfold qJ fn IG;simp only[cv,bD,bG];rw[av (e':=[.al\.int c,.fr\.str AB,none,none,none,none,none,none,none]) rfl];rw[av (e':=[.fr\.int x,.fr\.str AB,none,none,none,none,none,none,none]) (by ac_rfl)];rw[av (e':=[.fr\.int x,.fr\.str AB,.fr\.int (1+x%8),none,none,none,none,none,none]) (by ac_rfl)];rw[av (e':=[.fr\.int x,.fr\.str AB,.fr\.int (1+x%8),.fr\.int (x/8%(1+x%8)),none,none,none,none,none]) (by ac_rfl)];rw[av (e':=[.fr\.int x,.fr\.str AB,.fr\.int (1+x%8),.fr\.int (x/8%(1+x%8)),.bo\.lst [],none,none,none,none]) rfl];rw[av (e':=[.fr\.int x,.fr\.str AB,.fr\.int (1+x%8),.fr\.int (x/8%(1+x%8)),.bo\.str∘fs,o5,o6,o7,o8]) (by
  let cQ:-4611686018427387904≤3+x/64%3∧3+x/64%3<4611686018427387904:=by omega
  ac_rfl)]
 rfl
def Vk{ns:Qjz}{k:Int}(h0:0≤k)(h1:k<ns.length):∃c,L2.bp (ns.map D.str) k=some (.str c):=Wf h0 h1
def qL(c:Int)(ns:Qjz)(h:0<ns.length):∃k:Ko,jN [.int c,.str∘ns]=some (.fr,kD k):=by
 unfold jN fn Ic;simp only[cv,bD,bG];let hb:(jB (ae aP (ae bh (jV 0) (jC (.int 6))) (jC (.int 0)))) [.al\.int c,.al\.str∘ns]=some (decide (c%6=0)):=by nofun
 by_cases q:c%6=0
 ·rw[dJ (e':=[.al\.int c,.al\.str∘ns]) (m:=.fr) (d:=kD (.inl ((L2.bp [0,1,18446744073709551615,c/24*48271%18446744073709551616] (c/6%4)).getD 0))) (by
   rw[bF (by infer_instance)];nofun;let e:=jh (l:=[D.int 0,.int 1,.int 18446744073709551615,.int (c/24*48271%18446744073709551616)]) (k:=c/6%4) ∅ (by simp;omega);let e2:=jh (l:=[(0:Int),1,18446744073709551615,c/24*48271%18446744073709551616]) (k:=c/6%4) ∅ (by simp;omega);rw[e,e2];have:∀(l:Qxk) (i:Nat) (h:i<l.length) (h':i<(l.map D.int).length),(l.map D.int)[i]=D.int l[i]:=λl i h h'=>by simp
   let e3:=this [(0:Int),1,18446744073709551615,c/24*48271%18446744073709551616] (c/6%4).toNat (by simp;omega) (by simp;omega);simp! [mq,mn]at e3;rw[e3];rfl)]
  exact⟨_,rfl⟩
 ·rw[fU (by infer_instance)];nofun;let⟨z,e⟩:=Vk (ns:=ns) (k:=c/6%ns.length) (gO _ ∅) (gZ _ ∅);rw[e];symm;exact⟨.inr z,by simp only[M5,Pn];rfl⟩
noncomputable abbrev De:=Str×Ko×Ko
abbrev ao(q:De):D:=.tup [.str q.1,kD q.2.1,kD q.2.2]
def aa3(q:De):(ao q).cB=true:=by simp only[ao,D.cB,D.cO,qX,Bool.and_self]
def qQ{α β:Type}{f:α→β}{l:List α}{k:Int}(h0:0≤k)(h1:k<l.length):∃c∈l,L2.bp (l.map f) k=some (f c):=by
 rw[jh h0 (by simpa using h1)];exact⟨l[k.toNat]'∅,su _,by simp⟩
section
variable {m n:M}
end
def aa4{m n:M}{i:Int}(h0:0≤i)(h1:i<8):∃s:Str,au (m,.str "+-*&|^<=") (n,.int i)=some (.fr,.str s):=by
 let⟨d,e,c,rfl⟩:=Dw (m:=m) (n:=n) (x := "+-*&|^<=") (i:=i) (by decide) h0 (by rw[show(("+-*&|^<=" : Str).cps.toList.length:Int)=8 by decide +kernel];exact h1);exact⟨_,e⟩
def Yp(ns:Qxk)(fs:Qjz)(hf:0<fs.length)(A2 A3:Qzq)(r k:Int)(ds:List De)(hd:ds.length≤50)(o7 o8 o9:Qzq) :
  ∃r' q bU eW Hs,xK [.al\.int∘ns,.al\.str∘fs,A2,A3,.fr\.int r,.bo\ao∘ds,.fr\.int k,o7,o8,o9]=some (.nx [.al\.int∘ns,.al\.str∘fs,A2,A3,.fr\.int r',.bo\.lst ((ds++[q]).map ao),.fr\.int k,bU,eW,Hs]):=by
 let⟨x1,h1⟩:=oV r k;let⟨x2,h2⟩:=oV r (k+20);let⟨x3,h3⟩:=oV r (k+40);let⟨b,hb⟩:=DF ns;let s5:ds.length<sizeLine:=eD hd (by decide);unfold xK;rw[av (e':=[.al\.int∘ns,.al\.str∘fs,A2,A3,.fr\.int r,.bo\ao∘ds,.fr\.int k,.fr\.int x1,o8,o9]) (by ac_rfl)];rw[av (e':=[.al\.int∘ns,.al\.str∘fs,A2,A3,.fr\.int r,.bo\ao∘ds,.fr\.int k,.fr\.int x1,.fr\.int x2,o9]) (by ac_rfl)];rw[av (e':=[.al\.int∘ns,.al\.str∘fs,A2,A3,.fr\.int r,.bo\ao∘ds,.fr\.int k,.fr\.int x1,.fr\.int x2,.fr\.int (x3%8)]) (by ac_rfl)];let fin:∀(r' y1 y2 y3:Int),0≤y3→y3<8→∃q,cE 5 (aY (ag (ae au (jC (.str "+-*&|^<=")) (jV 9)) (ag (aC jN (ag (jV 7) (ag (jV 1) ai))) (ag (aC jN (ag (jV 8) (ag (jV 1) ai))) ai)))) [.al\.int∘ns,.al\.str∘fs,A2,A3,.fr\.int r',.bo\ao∘ds,.fr\.int k,.fr\.int y1,.fr\.int y2,.fr\.int y3]=some (.nx [.al\.int∘ns,.al\.str∘fs,A2,A3,.fr\.int r',.bo\.lst ((ds++[q]).map ao),.fr\.int k,.fr\.int y1,.fr\.int y2,.fr\.int y3]):=λr' y1 y2 y3 z0 z1=>by
  let⟨s,hs⟩:=aa4 (m:=.fr) (n:=.fr) z0 z1;let⟨a,ha⟩:=qL y1 fs hf;let⟨b,hb⟩:=qL y2 fs hf;refine⟨(s,a,b),?_⟩;symm;rw[hs];symm;rw[ha];symm;rw[hb];symm;simp! [s5,if_true,List.map_append,mq,mn,ao]
 cases b with
 |false =>
  rw[av (e':=[.al\.int∘ns,.al\.str∘fs,A2,A3,.fr\.int r,.bo\ao∘ds,.fr\.int k,.fr\.int x1,.fr\.int x2,.fr\.int (x3%8)]) (by ac_rfl)];let⟨q,hq⟩:=fin r x1 x2 (x3%8) ∅ ∅;exact⟨_,q,_,_,_,hq⟩
 |true =>
  rw[av (e':=[.al\.int∘ns,.al\.str∘fs,A2,A3,.fr\.int (r/8000000000000000000000000000000000000000000),.bo\ao∘ds,.fr\.int k,.fr\.int (r%1000000000000000000000),.fr\.int (r/1000000000000000000000%1000000000000000000000),.fr\.int (r/1000000000000000000000000000000000000000000%8)]) (by
   rw[bF (by infer_instance)]
   ac_rfl)]
  let⟨q,hq⟩:=fin (r/8000000000000000000000000000000000000000000) (r%1000000000000000000000) (r/1000000000000000000000%1000000000000000000000) (r/1000000000000000000000000000000000000000000%8) ∅ ∅;exact⟨_,q,_,_,_,hq⟩
def C7(ns:Qxk)(fs:Qjz)(hf:0<fs.length):∃ds:List De,(1≤ds.length∧ds.length≤12)∧qK [.int∘ns,.str∘fs]=some (.un,ao∘ds):=by
 let⟨c,hc⟩:=oX ns 1 ∅;unfold qK fn II;simp only[cv,bD,bG];rw[av (e':=[.al\.int∘ns,.al\.str∘fs,.fr\.int c,none,none,none,none,none,none,none]) (by ac_rfl)];rw[av (e':=[.al\.int∘ns,.al\.str∘fs,.fr\.int c,.fr\.int (1+c%4),none,none,none,none,none,none]) (by ac_rfl)];let hm:∃many:Int,(1≤many∧many≤12)∧aM (jB (ae aP (ae bh (ae cL (jV 2) (jC (.int 4))) (jC (.int 6))) (jC (.int 1)))) (ax 3 (jC (.int 12))) aR [.al\.int∘ns,.al\.str∘fs,.fr\.int c,.fr\.int (1+c%4),none,none,none,none,none,none]=some (.nx [.al\.int∘ns,.al\.str∘fs,.fr\.int c,.fr\.int many,none,none,none,none,none,none]):=by
  by_cases q:c/4%6=1
  ·exact⟨12,by omega,by rw[bF (by infer_instance)];rfl⟩
  ·exact⟨1+c%4,by omega,by rw[bE (by infer_instance)];rfl⟩
 let⟨many,wX,em⟩:=hm;rw[av em];rw[av (e':=[.al\.int∘ns,.al\.str∘fs,.fr\.int c,.fr\.int many,.fr\.int (c/24),none,none,none,none,none]) (by ac_rfl)];rw[av (e':=[.al\.int∘ns,.al\.str∘fs,.fr\.int c,.fr\.int many,.fr\.int (c/24),.bo\.lst [],none,none,none,none]) rfl];let⟨e',l1,ds,r,o6,o7,o8,o9,he,hl⟩:=du (g:=gN 6) (b:=xK) (m:=.fr) (ds:=cu 0 many.toNat) (e:=[.al\.int∘ns,.al\.str∘fs,.fr\.int c,.fr\.int many,.fr\.int (c/24),.bo\.lst [],none,none,none,none])
  (λi e=>∃(ds:List De) (r:Int) (o6 o7 o8 o9:Qzq),e=[.al\.int∘ns,.al\.str∘fs,.fr\.int c,.fr\.int many,.fr\.int r,.bo\ao∘ds,o6,o7,o8,o9]∧ds.length=i) ⟨[],_,none,none,none,none,rfl,rfl⟩
  (λi d e hd bu=>by
   let⟨ds,r,o6,o7,o8,o9,he,hl⟩:=bu;subst he;let⟨hi,rfl⟩:=mB hd;let⟨r',q,bU,eW,Hs,e⟩:=Yp ns fs hf (.fr\.int c) (.fr\.int many) r (0+(i:Int)) ds ∅ o7 o8 o9;exact⟨_,_,rfl,e,ds++[q],r',_,bU,eW,Hs,rfl,by simp[hl]⟩)
 subst he;rw[k6]at hl;rw[av (e':=[.al\.int∘ns,.al\.str∘fs,.fr\.int c,.fr\.int many,.fr\.int r,.bo\ao∘ds,o6,o7,o8,o9]) (by
  let cQ:-4611686018427387904≤many∧many<4611686018427387904:=by omega
  simp! [aU,cq,ag,ai,jV,gz,gy,id_eq,oq,cQ,and_self,if_true];exact l1)]
 by_cases q2:ds.length=2
 ·obtain⟨d0,d1,rfl⟩:∃a b,ds=[a,b]:=by
   clear hl l1;obtain _|⟨a,_|⟨b,_|_⟩⟩:=ds
   ·cases q2
   ·cases q2
   ·exact⟨a,b,rfl⟩
   ·cases q2
  by_cases q3:c/4%3=0
  ·refine⟨[d0,(d0.1,d0.2.2,d0.2.1)],by simp,?_⟩;rw[av (e':=[.al\.int∘ns,.al\.str∘fs,.fr\.int c,.fr\.int many,.fr\.int r,.bo\.lst ([d0,(d0.1,d0.2.2,d0.2.1)].map ao),o6,o7,o8,o9]) (by
    rw[bF (by nofun;simp[q3])];rfl)]
   rfl
  ·refine⟨[d0,d1],by simp,?_⟩;rw[av (e':=[.al\.int∘ns,.al\.str∘fs,.fr\.int c,.fr\.int many,.fr\.int r,.bo\.lst ([d0,d1].map ao),o6,o7,o8,o9]) (by
    rw[bE (by nofun;simp[q3])];rfl)]
   rfl
 ·refine⟨ds,by omega,?_⟩;rw[av (e':=[.al\.int∘ns,.al\.str∘fs,.fr\.int c,.fr\.int many,.fr\.int r,.bo\ao∘ds,o6,o7,o8,o9]) (by
   rw[bE (by
    symm;have:¬((ds.length:Int)=2):=by omega
    simp only[this,decide_false];symm)]
   rfl)]
  rfl
abbrev Row.flat:Row→Bool
 |.rk _ _ _ _=>true
 |.cp _ _=>true
 |.sy _=>true
 |_=>false
def NB(c o:Int)(fs:Qjz)(hf:0<fs.length)(ds:List De)(hd:0<ds.length):∃r:Row,uj [.int c,.int o,.str∘fs,ao∘ds]=.fr\r.d∧(c%11<7→Row.flat r=true)∧(7≤c%11→c%11<9→∃a t,r=.pt a t∧0≤t)∧(9≤c%11→∃a,r=.pt a (-1)):=by
 let⟨nm,_,hn⟩:=qQ (f:=D.str) (l:=fs) (k:=o%60%fs.length) (gO _ ∅) (gZ _ ∅);let⟨op,ho⟩:=qL (o/43200) fs hf;let⟨q,_,hq⟩:=qQ (f:=ao) (l:=ds) (k:=o/60%12%ds.length) (gO _ ∅) (gZ _ ∅);unfold uj fn JV;simp only[cv,bD,bG];rw[av (e':=[.al\.int c,.al\.int o,.al\.str∘fs,.al\ao∘ds,.al\.str nm,none,none,none,none]) (by ac_rfl)];rw[av (e':=[.al\.int c,.al\.int o,.al\.str∘fs,.al\ao∘ds,.al\.str nm,.fr\kD op,none,none,none]) (by ac_rfl)];by_cases q1:c%11<5
 ·refine⟨.rk nm q.1 q.2.1 q.2.2,?_,λ_=>rfl,λz=>by omega,λz=>by omega⟩;rw[dJ (e':=[.al\.int c,.al\.int o,.al\.str∘fs,.al\ao∘ds,.al\.str nm,.fr\kD op,.al\.str q.1,.al\kD q.2.1,.al\kD q.2.2]) (m:=.fr) (d:=Row.d (.rk nm q.1 q.2.1 q.2.2)) (by
   rw[bF (by infer_instance)];rw[av (e':=[.al\.int c,.al\.int o,.al\.str∘fs,.al\ao∘ds,.al\.str nm,.fr\kD op,.al\.str q.1,.al\kD q.2.1,.al\kD q.2.2]) (by ac_rfl)];symm;simp! [qX,Bool.and_self,if_true];rfl)]
  rfl
 rw[fU (by infer_instance)];by_cases q2:c%11=5
 ·refine⟨.cp nm op,?_,λ_=>rfl,λz=>by omega,λz=>by omega⟩;rw[dJ (e':=[.al\.int c,.al\.int o,.al\.str∘fs,.al\ao∘ds,.al\.str nm,.fr\kD op,none,none,none]) (m:=.fr) (d:=Row.d (.cp nm op)) (by
   rw[bF (by infer_instance)]
   ac_rfl)]
  rfl
 rw[fU (by infer_instance)];by_cases q3:c%11=6
 ·refine⟨.sy op,?_,λ_=>rfl,λz=>by omega,λz=>by omega⟩;rw[dJ (e':=[.al\.int c,.al\.int o,.al\.str∘fs,.al\ao∘ds,.al\.str nm,.fr\kD op,none,none,none]) (m:=.fr) (d:=Row.d (.sy op)) (by
   rw[bF (by infer_instance)]
   ac_rfl)]
  rfl
 rw[fU (by infer_instance)];by_cases q4:c%11<9
 ·refine⟨.pt op (o/720%60),?_,λz=>by omega,λ_ _=>⟨_,_,rfl,by omega⟩,λz=>by omega⟩;rw[dJ (e':=[.al\.int c,.al\.int o,.al\.str∘fs,.al\ao∘ds,.al\.str nm,.fr\kD op,none,none,none]) (m:=.fr) (d:=Row.d (.pt op (o/720%60))) (by
   rw[bF (by infer_instance)]
   ac_rfl)]
  rfl
 ·refine⟨.pt op (-1),?_,λz=>by omega,λ_ z=>by omega,λ_=>⟨_,rfl⟩⟩;rw[fU (by infer_instance)]
  ac_rfl
abbrev Row.gC:Row→Bool
 |.go _=>true
 |_=>false
abbrev Row.pW:Row→Bool
 |.pt _ _=>true
 |_=>false
abbrev Row.iB:Row→Bool
 |.en=>true
 |_=>false
def sg(r:Row):decide (r.word=("go" : Str))=Row.gC r:=by
 cases r with
 |rk x s a b=>exact(by decide +kernel:decide (("reckon" : Str) = "go")=false)
 |cp x a=>exact(by decide +kernel:decide (("copy" : Str) = "go")=false)
 |sy a=>exact(by decide +kernel:decide (("say" : Str) = "go")=false)
 |go t=>exact(by decide +kernel:decide (("go" : Str) = "go")=true)
 |pt a t=>exact(by decide +kernel:decide (("part" : Str) = "go")=false)
 |en=>exact(by decide +kernel:decide (("end" : Str) = "go")=false)
def Fs(r:Row):decide (r.word=("part" : Str))=Row.pW r:=by
 cases r with
 |rk x s a b=>exact(by decide +kernel:decide (("reckon" : Str) = "part")=false)
 |cp x a=>exact(by decide +kernel:decide (("copy" : Str) = "part")=false)
 |sy a=>exact(by decide +kernel:decide (("say" : Str) = "part")=false)
 |go t=>exact(by decide +kernel:decide (("go" : Str) = "part")=false)
 |pt a t=>exact(by decide +kernel:decide (("part" : Str) = "part")=true)
 |en=>exact(by decide +kernel:decide (("end" : Str) = "part")=false)
def zV(r:Row):decide (r.word=("end" : Str))=Row.iB r:=by
 cases r with
 |rk x s a b=>exact(by decide +kernel:decide (("reckon" : Str) = "end")=false)
 |cp x a=>exact(by decide +kernel:decide (("copy" : Str) = "end")=false)
 |sy a=>exact(by decide +kernel:decide (("say" : Str) = "end")=false)
 |go t=>exact(by decide +kernel:decide (("go" : Str) = "end")=false)
 |pt a t=>exact(by decide +kernel:decide (("part" : Str) = "end")=false)
 |en=>exact(by decide +kernel:decide (("end" : Str) = "end")=true)
def gS(m n:M)(r:Row):au (m,r.d) (n,.int 0)=some (bf m,.str r.word):=by
 show(L2.bp r.ds 0).map (λd=>(bf m,d))=_;rw[Row.at0];rfl
def L1{rs:List Row}{i:Nat}{d:D}(h:(bY (rs.map Row.d))[i]?=some d):∃r,rs[i]?=some r∧d=.tup [.int i,r.d]:=by
 unfold bY at h;rw[sx,cA]at h;cases e:rs[i]? with
 |none=>rw[e]at h;cases h
 |some r=>rw[e]at h;cases h;exact⟨r,rfl,rfl⟩
abbrev bA(n:Int):Row→Qxk
 |.en=>[]
 |.go t=>[t]
 |.pt _ t=>[n+1,t]
 |_=>[n+1]
def aQ(rs:List Row)(i j:Nat):Prop:=∃r,rs[i]?=some r∧(j:Int)∈bA i r∧j<rs.length
def NC(rs:List Row)(n:Nat)(r:Row)(h:rs[n]?=some r):tV [Row.d∘rs,.int n]=some (.un,.lst ((bA n r).map .int)):=by
 let aX:n<rs.length:=(a9.mp h).1;let Cp:L2.bp (rs.map Row.d) (n:Int)=some r.d:=by
  rw[ml (by rw[ln];exact aX),As];rw[dC aX]at h;rw[eC h]
 generalize (n:Int)=nn at Cp ⊢;unfold tV fn IA;symm;rw[Cp];symm;simp! [gS,oq,gw,iu,bN,zV,sg,Fs];cases r with
 |en=>simp only[Row.iB,bA];symm
 |go t =>
  let q:∀{m n:M},au (m,Row.d (.go t)) (n,.int 1)=some (bf m,.int t):=λ{m n}=>rfl
  ac_rfl
 |pt a t =>
  let q:∀{m n:M},au (m,Row.d (.pt a t)) (n,.int 2)=some (bf m,.int t):=λ{m n}=>rfl
  ac_rfl
 |rk x s a b =>
  ac_rfl
 |cp x a =>
  ac_rfl
 |sy a =>
  ac_rfl
def DG(rs:List Row)(n:Nat)(r:Row)(h:rs[n]?=some r):qF [Row.d∘rs,.int n]=some (.un,.lst ((bA n r).map .int)):=NC rs n r h
structure Good (rs:List Row):Prop where
 pos:0<rs.length
 bA:∀(n:Nat) r,rs[n]?=some r→∀m∈aN.bA n r,0≤m∧m<rs.length
 np:∀(n:Nat) a t,rs[n]?=some (.pt a t)→t≠(n:Int)+1
theorem oT:∀(N:Nat) (l:Qxj),l.Nodup→(∀x∈l,x<N)→l.length≤N
 |0,l,_,h=>by
  cases l with
  |nil=>exact aW _
  |cons a l=>exact absurd (h a cg) (kl a)
 |N+1,l,hn,h=>by
  let ih:=oT N (l.erase N) (hn.erase N) (λx hx=>by
   let h1:=h x (List.mem_of_mem_erase hx);let h2:x≠N:=λe=>by subst e;exact(List.Nodup.not_mem_erase hn) hx
   omega)
  rw[List.length_erase]at ih;split at ih<;>omega
abbrev ak(l:Qxj):Qzz:=l.map λ(n:Nat)=>↥n
local macro_rules|`(⇑$x)=>`(D.lst (ak $x))
def dW(l:Qxj):(ak l).length=l.length:=by simp[ak]
def uB(l:Qxj)(x:Nat):ak l++[↥x]=ak (l++[x]):=by simp[ak]
def cF(rs:List Row)(n:Nat):Qxk:=match rs[n]? with
 |some r=>bA n r
 |none=>[]
def dR(rs:List Row)(n:Nat):Qxj:=(cF rs n).map Int.toNat
set_option tactic.hygienic true in
def C8{rs:List Row}(g:Good rs){n:Nat}{m:Int}(h:m∈cF rs n):0≤m∧m<rs.length:=by
 unfold cF at h;split at h
 ·rename_i r hr;exact g.bA _ _ hr _ h
 ·cases h
def yT{rs:List Row}(g:Good rs)(n:Nat):(cF rs n).map D.int=ak (dR rs n):=by
 unfold ak dR;rw[gY];refine sC λm hm=>?_;have:=C8 g hm;show D.int m=D.int ((m.toNat:Nat):Int);rw[vR this.1]
set_option tactic.hygienic true in
def qM{rs:List Row}(g:Good rs){n m:Nat}(h:m∈dR rs n):aQ rs n m:=by
 let⟨x,hx,rfl⟩:=bP.mp h;let b:=C8 g hx;unfold cF at hx;split at hx
 ·rename_i r hr;exact⟨r,hr,by rw[vR b.1];exact hx,by omega⟩
 ·cases hx
def C9{rs:List Row}{n m:Nat}(h:aQ rs n m):m∈dR rs n:=by
 let⟨r,hr,hm,_⟩:=h;refine bP.mpr ⟨(m:Int),?_,by simp⟩;unfold cF;rw[hr];exact hm
def dS(rs:List Row):Qzz:=(List.range rs.length).map λn=>D.lst ((cF rs n).map D.int)
theorem JX{fe:Qqj}{m m':M}{fr:Ev}:∀{ds:Qzz}{G:Nat→D},(∀(k:Nat) d,ds[k]?=some d→fe (some (m,d)::fr)=some (m',G k))→dY fu fe m fr ds=some ((List.range ds.length).map λk=>(m',G k))
 |[],G,_=>rfl
 |d::ds,G,h=>by
  let ih:=JX (fe:=fe) (m:=m) (m':=m') (fr:=fr) (ds:=ds) (G:=λk=>G (k+1)) λk e he=>h (k+1) e (by simpa using he);rw[dY,show fu (some (m,d)::fr)=some true from rfl,oq,if_pos rfl,h 0 d rfl,oq,ih,oq,gf,List.range_succ_eq_map,mq,gY];rfl
def aa5{m:M}(hm:m=.fr∨m=.un){N:Nat}(h:N≤1000)(G:Nat→D):iR ((List.range N).map λk=>(m,G k))=some (.un,.lst ((List.range N).map G)):=by
 unfold iR;rw[if_pos (by rw[ln,vP];exact dM h (by decide)),if_pos (by rw[List.all_map];exact lJ.mpr λ_ _=>by rcases hm with rfl|rfl<;>rfl),gY];rfl
def CQ{rs:List Row}(hl:rs.length≤800):oK [Row.d∘rs]=some (.un,.lst (dS rs)):=by
 let ex:=JX (fe:=aC tV (ag (jV 1) (ag (jV 0) ai))) (m:=.fr) (m':=.un) (fr:=[.al\Row.d∘rs]) (ds:=cu 0 rs.length) (G:=λn=>D.lst ((cF rs n).map D.int)) (λk d hd=>by
  let⟨hk,rfl⟩:=mB hd;let hr:rs[k]?=some (rs[k]'hk):=by simp
  let e:=NC rs k _ hr;let ef:cF rs k=bA k (rs[k]'hk):=by unfold cF;rw[hr]
  rw[ef,show(0:Int)+(k:Int)=(k:Int) by omega]
  ac_rfl)
 rw[k6]at ex;let cQ:-4611686018427387904≤(rs.length:Int)∧(rs.length:Int)<4611686018427387904:=by omega
 let ht:(rs.length:Int).toNat=rs.length:=by omega
 unfold oK fn HS;simp! [aF,cW,cq,aL,ag,ai,jV,mq,mn,List.length_cons,List.length_nil,List.replicate,List.nil_append,List.cons_append,List.append_nil,gz,id_eq,oq,dE,ln,cQ,and_self,if_true,ht,Nat.sub_self,Nat.reduceAdd,Nat.reduceSub];rw[show gG [.al\Row.d∘rs] [0]=[.al\Row.d∘rs] from rfl];rw[ex,oq,aa5 (.inr rfl) ∅,oq];rfl
abbrev Ht(k:Nat)(e:Ev):Nat:=match e[k]? with
 |some (some (_,.dk ks))=>ks.length
 |_=>0
abbrev bq(ks:Qxj):List (Key×D):=ks.map λ(n:Nat)=>(.inl (n:Int),.bl true)
theorem Er:∀(ks:Qxj) (n:Nat),(dz (bq ks) (.inl (n:Int))).isSome=decide (n∈ks)
 |[],n=>rfl
 |k::ks,n=>by
  let ih:=Er ks n;show(((((Key.inl (k:Int):Key),D.bl true)::bq ks).find? λkv=>decide (kv.1=.inl (n:Int))).map (·.2)).isSome=_;rw[List.find?_cons];by_cases h:k=n
  ·subst h;rw[dP rfl];simp
  ·let gi:¬((Key.inl (k:Int):Key)=.inl (n:Int)):=λe=>h (Int.ofNat_inj.mp (Key.inl.inj e));rw[eQ gi];let h':¬n=k:=λz=>h z.symm;simp only[List.mem_cons,h',false_or];exact ih
def NF{ks:Qxj}{n:Nat}(h:n∉ks):putD (bq ks) (.inl (n:Int)) (.bl true)=bq (ks++[n]):=by
 let ha:((bq ks).any λkv=>decide (kv.1=.inl (n:Int)))=false:=by
  rw[List.any_eq_false];intro kv fB;let⟨q,hq,rfl⟩:=bP.mp fB;simp only[decide_eq_true_eq];intro e;exact h ((Int.ofNat_inj.mp (Key.inl.inj e))▸hq)
 unfold putD;rw[ha,if_neg bx];simp only[bq,List.map_append,mq,mn]
def yU(ks:Qxj):(bq ks).length=ks.length:=by simp[bq]
def bz(S:List (Qxj)):Qzz:=S.map λl=>⇑l
def gJ(Bk:List (Qxj)):D:=.lst ((Bk.map ak).map D.lst)
def Yq(Bk:List (Qxj)):gJ Bk=.lst (bz Bk):=by unfold gJ bz;rw[gY];rfl
def Yr{A0 A3:Qzq}{Bk:List (Qxj)}{n m:Nat}(hm:m<Bk.length)(hl:(Bk.getD m []).length≤5000) :
  tZ [A0,some (.nb,gJ Bk),.al\↥n,A3,.al\↥m]=some (.nx [A0,some (.nb,gJ (Bk.set m (Bk.getD m []++[n]))),.al\↥n,A3,.al\↥m]):=by
 let qB:dh (Bk.map ak).length (m:Int)=some m:=by
  unfold dh;rw[ln,if_pos ∅,if_pos ∅];simp
 let hd:(Bk.map ak)[m]?=some (ak (Bk.getD m [])):=by
  rw[cA,dC hm,ko,dC hm];rfl
 let hs:(ak (Bk.getD m [])).length<sizeLine:=by rw[dW];exact eD hl (by decide)
 let e1:(Bk.map ak).set m (ak (Bk.getD m []++[n]))=(Bk.set m (Bk.getD m []++[n])).map ak:=by rw[List.map_set]
 unfold tZ gJ;simp! [zk,jV,gz,gy,id_eq,oq,lj,uQ,pP,if_true,A4,Kn,qB,hd,hs,uB,e1,tz,tq]
def ym{Bk:List (Qxj)}{m j:Nat}{v:Qxj}(hm:m<Bk.length):(Bk.set m v).getD j []=if j=m then v else Bk.getD j []:=by
 rw[ko,ko,mR];by_cases h:m=j
 ·subst h;simp[hm]
 ·let h':¬j=m:=λz=>h z.symm;simp[h,h']
theorem Jm{A0 A3:Qzq}{n:Nat}:∀(ms:Qxj) (Bk:List (Qxj)) (c:Nat) (o4:Qzq),(∀m∈ms,m<Bk.length)→(∀j,(Bk.getD j []).length≤c)→c+ms.length≤5000 →
  ∃lX ig,forL (gN 4) tZ .al (ak ms) [A0,some (.nb,gJ Bk),.al\↥n,A3,o4]=some (.nx [A0,some (.nb,gJ lX),.al\↥n,A3,ig])∧lX.length=Bk.length∧(∀j,(lX.getD j []).length≤c+ms.length)∧(∀j x,x∈Bk.getD j []→x∈lX.getD j [])∧(∀m∈ms,n∈lX.getD m [])∧∀j x,x∈lX.getD j []→x∈Bk.getD j []∨(x=n∧j∈ms)
 |[],Bk,c,o4,_,hc,_=>⟨Bk,o4,by simp[ak,forL],rfl,λj=>by have:=hc j;simp;exact this,λj x h=>h,(λm hm=>nomatch hm),λj x h=>.inl h⟩
 |m::ms,Bk,c,o4,hm,hc,hl=>by
  let kM:=hm m cg;let tF:=hc m;rw[gf]at hl;let⟨lX,ig,q1,q2,q3,q4,q5,q6⟩:=Jm (A0:=A0) (A3:=A3) (n:=n) ms (Bk.set m (Bk.getD m []++[n])) (c+1) (.al\↥m) (λx hx=>by rw[gd];exact hm x (c9 _ hx)) (λj=>by
   rw[ym kM];split
   ·rw[fw];simp only[List.length_cons,List.length_nil];omega
   ·have:=hc j;omega) ∅
  refine⟨lX,ig,?_,by rw[q2,gd],λj=>by have:=q3 j;rw[gf];omega,λj x hx=>q4 j x ?_,λx hx=>?_,λj x hx=>?_⟩
  ·rw[show ak (m::ms)=↥m::ak ms from rfl,forL,show gN 4 (M.al,↥m) [A0,some (.nb,gJ Bk),.al\↥n,A3,o4]=some [A0,some (.nb,gJ Bk),.al\↥n,A3,.al\↥m] from rfl,oq,Yr kM ∅,oq];exact q1
  ·rw[ym kM];split
   ·rename_i e;subst e;exact jA _ hx
   ·exact hx
  ·rcases dN.mp hx with rfl|hx
   ·refine q4 x n ?_;rw[ym kM,if_pos rfl];simp
   ·exact q5 x hx
  ·rcases q6 j x hx with z|z
   ·rw[ym kM]at z;split at z
    ·rename_i e;subst e;rcases iD.mp z with y|y
     ·exact .inl y
     ·exact .inr ⟨by simpa using y,cg⟩
    ·exact .inl z
   ·exact .inr ⟨z.1,c9 _ z.2⟩
set_option tactic.hygienic true in
def Kw(rs:List Row)(n:Nat):(dR rs n).length≤2:=by
 unfold dR cF;rw[ln];split
 ·rename_i r _;cases r<;>simp[bA]
 ·simp
def Ys{rs:List Row}(g:Good rs):dS rs=bz ((List.range rs.length).map (dR rs)):=by
 unfold dS bz;rw[gY];refine sC λn _=>?_;show D.lst ((cF rs n).map D.int)=D.lst (ak (dR rs n));rw[yT g]
def Ww{rs:List Row}(g:Good rs){i:Nat}{d:D}(h:(bY (dS rs))[i]?=some d):i<rs.length∧d=.tup [↥i,.lst (ak (dR rs i))]:=by
 unfold bY dS at h;rw[sx,cA]at h;rcases vN i rs.length with z|z
 ·rw[Ap z]at h;cases h;exact⟨z,by show D.tup [↥i,D.lst ((cF rs i).map D.int)]=_;rw[yT g]⟩
 ·rw[og (by simpa using z)]at h;cases h
def UE{rs:List Row}(g:Good rs)(hl:rs.length≤800):∃Bk:List (Qxj),uA [.lst (dS rs)]=.fr\.lst (bz Bk)∧Bk.length=rs.length∧(∀n m,aQ rs n m→n∈Bk.getD m [])∧∀n m,n∈Bk.getD m []→aQ rs n m:=by
 let cQ:-4611686018427387904≤(rs.length:Int)∧(rs.length:Int)<4611686018427387904:=by omega
 let ht:(rs.length:Int).toNat=rs.length:=by omega
 let sl:(dS rs).length=rs.length:=by simp[dS]
 let r0:∀j,(List.replicate rs.length ([]:Qxj)).getD j []=[]:=λj=>by
  rw[ko,vI];split<;>rfl
 let⟨e',l1,Bk,o2,o3,o4,he,b1,b2,b3,b4⟩:=du (g:=gT 2 (bR (gN 2) (bR (gN 3) dX))) (b:=CN) (m:=.al) (ds:=bY (dS rs)) (e:=[.al\.lst (dS rs),some (.nb,gJ (List.replicate rs.length [])),none,none,none])
  (λi e=>∃(Bk:List (Qxj)) (o2 o3 o4:Qzq),e=[.al\.lst (dS rs),some (.nb,gJ Bk),o2,o3,o4]∧Bk.length=rs.length∧(∀j,(Bk.getD j []).length≤2*i)∧(∀n,n<i→∀m,aQ rs n m→n∈Bk.getD m [])∧∀j x,x∈Bk.getD j []→aQ rs x j)
  ⟨List.replicate rs.length [],none,none,none,rfl,by simp,λj=>by rw[r0];simp,λn h=>absurd h (Nat.not_lt_zero n),λj x h=>by rw[r0]at h;cases h⟩
  (λi d e hd bu=>by
   let⟨Bk,o2,o3,o4,he,b1,b2,b3,b4⟩:=bu;subst he;let⟨hi,rfl⟩:=Ww g hd;let lY:=Kw rs i;let⟨lX,ig,q1,q2,q3,q4,q5,q6⟩:=Jm (A0:=.al\.lst (dS rs)) (A3:=.al\.lst (ak (dR rs i))) (n:=i) (dR rs i) Bk (2*i) o4 (λm hm=>by
    rw[b1];let⟨_,_,_,z⟩:=qM g hm;exact z) b2 ∅
   refine⟨_,_,rfl,?_,lX,.al\↥i,.al\.lst (ak (dR rs i)),ig,rfl,by rw[q2,b1],λj=>by have:=q3 j;omega,λn hn m hs=>?_,λj x hx=>?_⟩
   ·unfold CN;rw[bT];show aU (bK (jV 3)) (gN 4) tZ [.al\.lst (dS rs),some (.nb,gJ Bk),.al\↥i,.al\.lst (ak (dR rs i)),o4]=_;simp! [aU,bK,jV,gz,gy,id_eq,oq,cf,oy];exact q1
   ·by_cases e:n=i
    ·subst e;exact q5 m (C9 hs)
    ·exact q4 m n (b3 n ∅ m hs)
   ·rcases q6 j x hx with z|z
    ·exact b4 j x z
    ·let⟨rfl,hj⟩:=z;exact qM g hj)
 subst he;let hE:(bY (dS rs)).length=rs.length:=by simp[bY,sl]
 rw[hE]at b3;refine⟨Bk,?_,b1,λn m hs=>b3 n ?_ m hs,λn m h=>b4 m n h⟩
 ·let n0:((cu 0 rs.length).map λ_=>([]:Qzz))=(List.replicate rs.length ([]:Qxj)).map ak:=by
   unfold cu;rw[gY];exact Ar (by simp) λi h1 h2=>by simp[ak]
  let nb0:Fe 1 [.al\.lst (dS rs),none,none,none,none]=true:=rfl;let hs:(cu 0 rs.length).length<sizeLine:=by rw[k6];exact eD hl (by decide)
  unfold uA fn Ku;simp only[cv,bD,bG];rw[av (e':=[.al\.lst (dS rs),some (.nb,gJ (List.replicate rs.length [])),none,none,none]) (by
   simp! [zj,cq,aL,ag,ai,jV,gz,id_eq,oq,dE,sl,cQ,and_self,if_true,ht,nb0,hs,n0,tz,tq,gJ])]
  rw[av (e':=[.al\.lst (dS rs),some (.nb,gJ Bk),o2,o3,o4]) (by
   rw[bT,show aZ 0 [.al\.lst (dS rs),some (.nb,gJ (List.replicate rs.length [])),none,none,none]=[.al\.lst (dS rs),some (.nb,gJ (List.replicate rs.length [])),none,none,none] from rfl];simp! [aU,gj,ag,jV,ai,gz,gy,oq,id_eq,cf,oy];exact l1)]
  rw[←Yq];rfl
 ·let⟨r,hr,_⟩:=hs;exact(a9.mp hr).1
def uI(N:Nat):cu 0 N=ak (List.range N):=by
 unfold cu ak;exact sC λk _=>by rw[Int.zero_add]
theorem tU{fc:Qqx}{fe:Qqj}{m:M}{fr:Ev}{p:Nat→Bool}:∀(ks:Qxj),(∀k∈ks,fc (some (m,↥k)::fr)=some (p k)∧fe (some (m,↥k)::fr)=.fr\↥k)→dY fc fe m fr (ak ks)=some ((ak (ks.filter p)).map λx=>(M.fr,x))
 |[],_=>rfl
 |k::ks,h=>by
  let⟨h1,h2⟩:=h k cg;let ih:=tU (fc:=fc) (fe:=fe) (m:=m) (fr:=fr) (p:=p) ks λx hx=>h x (c9 _ hx);rw[show ak (k::ks)=↥k::ak ks from rfl,dY,h1,oq,List.filter_cons];cases p k with
  |true=>rw[if_pos rfl,h2,oq,ih,if_pos rfl];rfl
  |false=>rw[if_neg bx,ih,if_neg bx]
mutual
theorem Kx:∀d:D,J.plain d=true→PyData.eqv (toPy d) (toPy d)=true
 |.non,_=>by simp[toPy,PyData.eqv]
 |.bl b,_=>by simp[toPy,PyData.eqv]
 |.int i,_=>by simp[toPy,PyData.eqv]
 |.str x,_=>by simp[toPy,PyData.eqv]
 |.ty n,h=>by simp[J.plain]at h
 |.dk _,h=>by simp[J.plain]at h
 |.dt _,h=>by simp[J.plain]at h
 |.tup ds,h=>by
  simp only[toPy,PyData.eqv];exact C0 ds (by simpa only[J.plain]using h)
 |.lst ds,h=>by
  simp only[toPy,PyData.eqv];exact C0 ds (by simpa only[J.plain]using h)
theorem C0:∀ds:Qzz,J.fK ds=true→PyData.eqvAll (dw ds) (dw ds)=true
 |[],_=>by simp[dw,PyData.eqvAll]
 |d::ds,h=>by
  let h':J.plain d=true∧J.fK ds=true:=by simpa[J.fK]using h
  simp only[dw,PyData.eqvAll,Kx d h'.1,C0 ds h'.2,Bool.and_self]
end
theorem JY{n:Nat}:∀{ds:Qzz},(∀d∈ds,(toPy d).depth≤n)→PyData.depthAll (dw ds)≤n
 |[],_=>by simp[dw,PyData.depthAll]
 |d::ds,h=>by
  have:=JY (ds:=ds) λx hx=>h x (c9 _ hx);let h1:=h d cg;simp only[dw,PyData.depthAll];omega
theorem uf:∀{ds:Qzz},(∀d∈ds,J.plain d=true)→J.fK ds=true
 |[],_=>by simp[J.fK]
 |d::ds,h=>by simp only[J.fK,h d List.mem_cons_self,uf λx hx=>h x (List.mem_cons_of_mem _ hx),Bool.and_self]
def Wx{ds:Qzz}(h1:∀d∈ds,J.plain d=true)(h2:∀d∈ds,(toPy d).depth≤10):j7 (.lst ds) (.lst ds)=true:=by
 let hd:(toPy (.lst ds)).depth≤60:=by
  simp only[toPy,PyData.depth];have:=JY h2;omega
 simp only[j7,J.plain,uf h1,pw,Bool.and_self,Bool.true_and];exact dP ∅
def aa6{m n:M}{ds:Qzz}(h1:∀d∈ds,J.plain d=true)(h2:∀d∈ds,(toPy d).depth≤10):iA (m,.lst ds) (n,.lst ds)=some (.fr,.bl false):=by
 let e:=Kx (.lst ds) (by simp only[J.plain];exact uf h1);simp only[iA,Wx h1 h2,if_true,e,Bool.not_true]
abbrev ck(q:Int×Int):D:=.tup [.int q.1,.int q.2]
def aT(l:List (Int×Int)):Qzz:=l.map ck
def Vl(l:List (Int×Int)):∀d∈aT l,J.plain d=true:=λd hd=>by
 let⟨q,_,rfl⟩:=bP.mp hd;simp[ck,J.plain,J.fK]
def Vm(l:List (Int×Int)):∀d∈aT l,(toPy d).depth≤10:=λd hd=>by
 let⟨q,_,rfl⟩:=bP.mp hd;simp[ck,toPy,dw,PyData.depth,PyData.depthAll]
def DH(l:List (Int×Int)):(aT l).length=l.length:=by simp[aT]
def Ky(l:List (Int×Int))(a b:Int):aT l++[.tup [.int a,.int b]]=aT (l++[(a,b)]):=by simp[aT,ck]
def aJ(rs:List Row)(k:Nat):List (Int×Int):=(-1,0)::(List.range k).flatMap λn=>(cF rs n).map λm=>((n:Int),m)
def oW(rs:List Row)(k:Nat):aJ rs (k+1)=aJ rs k++(cF rs k).map λm=>((k:Int),m):=by
 unfold aJ;rw[List.range_succ,List.flatMap_append];simp
def Dc(rs:List Row)(n:Nat):(cF rs n).length≤2:=by
 have:=Kw rs n;unfold dR at this;rwa [ln]at this
theorem uJ(rs:List Row):∀k,(aJ rs k).length≤2*k+1
 |0=>by simp[aJ]
 |k+1=>by
  have:=uJ rs k;have:=Dc rs k;rw[oW,fw,ln];omega
theorem Ir{A0 A3:Qzq}{n:Int}:∀(ms:Qxk) (l:List (Int×Int)) (o4:Qzq),l.length+ms.length≤5000→∃ig,forL (gN 4) tY .fr (ms.map D.int) [A0,.bo\.lst (aT l),.fr\.int n,A3,o4]=some (.nx [A0,.bo\.lst (aT (l++ms.map λm=>(n,m))),.fr\.int n,A3,ig])
 |[],l,o4,_=>⟨o4,by simp[forL]⟩
 |m::ms,l,o4,hl=>by
  rw[gf]at hl;let⟨ig,q⟩:=Ir (A0:=A0) (A3:=A3) (n:=n) ms (l++[(n,m)]) (.fr\.int m) (by rw[fw];simp only[List.length_cons,List.length_nil];omega);refine⟨ig,?_⟩;let hs:l.length<sizeLine:=eD (show l.length≤5000 by omega) (by decide);rw[mq,forL,show gN 4 (M.fr,D.int m) [A0,.bo\.lst (aT l),.fr\.int n,A3,o4]=some [A0,.bo\.lst (aT l),.fr\.int n,A3,.fr\.int m] from rfl,oq];let hb:tY [A0,.bo\.lst (aT l),.fr\.int n,A3,.fr\.int m]=some (.nx [A0,.bo\.lst (aT (l++[(n,m)])),.fr\.int n,A3,.fr\.int m]):=by
   unfold tY;symm;rw[DH,if_pos hs,Ky]
  rw[hb,oq];simpa using q
def Wy{rs:List Row}{i:Nat}{d:D}(h:(bY (dS rs))[i]?=some d):i<rs.length∧d=.tup [↥i,.lst ((cF rs i).map D.int)]:=by
 unfold bY dS at h;rw[sx,cA]at h;rcases vN i rs.length with z|z
 ·rw[Ap z]at h;cases h;exact⟨z,rfl⟩
 ·rw[og (by simpa using z)]at h;cases h
def Vn{rs:List Row}(hl:rs.length≤800):yk [Row.d∘rs]=some (.un,.lst (aT (aJ rs rs.length))):=by
 let af:=CQ hl;let⟨e',l1,o2,o3,o4,he⟩:=du (g:=gT 2 (bR (gN 2) (bR (gN 3) dX))) (b:=CM) (m:=.fr) (ds:=bY (dS rs)) (e:=[.al\Row.d∘rs,.bo\.lst (aT (aJ rs 0)),none,none,none])
  (λi e=>∃(o2 o3 o4:Qzq),e=[.al\Row.d∘rs,.bo\.lst (aT (aJ rs i)),o2,o3,o4])
  ⟨none,none,none,rfl⟩
  (λi d e hd bu=>by
   let⟨o2,o3,o4,he⟩:=bu;subst he;let⟨hi,rfl⟩:=Wy hd;let h1:=uJ rs i;let h2:=Dc rs i;let⟨ig,q⟩:=Ir (A0:=.al\Row.d∘rs) (A3:=.fr\.lst ((cF rs i).map D.int)) (n:=(i:Int)) (cF rs i) (aJ rs i) o4 ∅;refine⟨_,_,rfl,?_,.fr\↥i,.fr\.lst ((cF rs i).map D.int),ig,by rw[oW]⟩;unfold CM;rw[bT];show aU (bK (jV 3)) (gN 4) tY [.al\Row.d∘rs,.bo\.lst (aT (aJ rs i)),.fr\↥i,.fr\.lst ((cF rs i).map D.int),o4]=_;simp! [aU,bK,jV,gz,gy,id_eq,oq,cf,oy];exact q)
 subst he;let hE:(bY (dS rs)).length=rs.length:=by simp[bY,dS]
 rw[hE]at l1;unfold yk fn Kt;simp only[cv,bD,bG];rw[av (e':=[.al\Row.d∘rs,.bo\.lst (aT (aJ rs 0)),none,none,none]) rfl];rw[av (e':=[.al\Row.d∘rs,.bo\.lst (aT (aJ rs rs.length)),o2,o3,o4]) (by
  simp! [aU,gj,ag,jV,ai,aC,gz,gy,oq,id_eq,mq,mn,af,cf,oy];exact l1)]
 rfl
def Wz{m:M}(ws:Qxk):iJ m (ws.map .int)=some (.un,.int∘ws):=by
 unfold iJ;rw[if_pos (CY ws),if_pos (CY ws),ite_self,ite_self]
def Yt(ws:Qxk)(lo hi:Option Int):J.cut (ws.map D.int) lo hi=(J.cut ws lo hi).map D.int:=by
 unfold J.cut;rw[ln,List.map_take,List.map_drop]
def DI{m:M}(ws:Qxk)(lo hi:Option Int):iL (m,.int∘ws) lo hi=some (.un,.lst ((J.cut ws lo hi).map .int)):=by
 unfold iL vz E4;simp only[Yt,Wz]
theorem JZ:∀xs:Qxk,lB (xs.map .int)=some xs
 |[]=>rfl
 |x::xs=>by rw[mq,lB,JZ xs];rfl
def C1(ns:Qxk)(k:Int)(h:0≤k):∃x,qI [.int∘ns,.int k]=some (.fr,.int x):=by
 let⟨b,hb⟩:=DF ns;let⟨c,hc⟩:=oX ns k h;let⟨x,hx⟩:=oV (J.cut ns none (some 4)).sum k;unfold qI fn Im;simp only[cv,bD,bG];cases b with
 |true =>
  refine⟨c,?_⟩;rw[dJ (e':=[.al\.int∘ns,.al\.int k]) (m:=.fr) (d:=.int c) (by
   rw[bF (by infer_instance)]
   ac_rfl)]
  rfl
 |false =>
  refine⟨x,?_⟩;rw[fU (by infer_instance)];symm;rw[DI];symm;simp! [vC,JZ,oq];symm;rw[hx];symm
def jS{rs:List Row}{n:Nat}{r:Row}(h:rs[n]?=some r):L2.bp (rs.map Row.d) (n:Int)=some r.d:=by
 let aX:n<rs.length:=(a9.mp h).1;rw[ml (by rw[ln];exact aX),As];rw[dC aX]at h;rw[eC h]
def aa7{r:Row}:Row.iB r=true↔r=.en:=by cases r<;>simp[Row.iB]
def D6{r:Row}:Row.gC r=true↔∃t,r=.go t:=by cases r<;>simp[Row.gC]
abbrev pick(rs:List Row)(p:Row→Bool)(n:Nat):Bool:=match rs[n]? with
 |some r=>p r
 |none=>false
def yV(es:Qxj):j7 (⇑es) (.lst [])=true∧PyData.eqv (toPy (⇑es)) (toPy (.lst []))=es.isEmpty:=by
 let p1:J.fK (ak es)=true:=uf λd hd=>by
  let⟨q,_,rfl⟩:=bP.mp hd;simp[J.plain]
 refine⟨?_,?_⟩
 ·simp only[j7,J.plain,p1,J.fK,pw,Bool.and_self,Bool.true_and];exact dP (by simp[toPy,dw,PyData.depth,PyData.depthAll])
 ·cases es<;>simp[ak,toPy,dw,PyData.eqv,PyData.eqvAll]
def L3{m n:M}(es:Qxj):gB (m,⇑es) (n,.lst [])=some (.fr,.bl es.isEmpty):=by
 simp only[gB,(yV es).1,if_true,(yV es).2]
def L4{m n:M}(es:Qxj):iA (m,⇑es) (n,.lst [])=some (.fr,.bl (!es.isEmpty)):=by
 simp only[iA,(yV es).1,if_true,(yV es).2]
def Et{α:Type}{a:α}{l:List α}:L2.bp (a::l) 0=some a:=by
 have:=ml (l:=a::l) (k:=0) (by simp);simpa using this
def Yu(rs:List Row)(n:Int)(hl:rs.length≤100)(h0:rs[0]?≠some .en):∃r:Row,x8 [Row.d∘rs,.int n]=.fr\r.d∧(r=.en∨(0<rs.length∧∃t,r=.go t)):=by
 let cQ:-4611686018427387904≤(rs.length:Int)∧(rs.length:Int)<4611686018427387904:=by omega
 let ht:(rs.length:Int).toNat=rs.length:=by omega
 let ex:=tU (fc:=jB (ae aP (ae au (ae au (jV 1) (jV 0)) (jC (.int 0))) (jC (.str "end")))) (fe:=jV 0) (m:=.fr) (fr:=[.al\Row.d∘rs]) (p:=pick rs Row.iB) (List.range rs.length) (λk hk=>by
  let hk:=iC.mp hk;let hr:rs[k]?=some (rs[k]'hk):=by simp
  let e:=jS hr;refine⟨?_,rfl⟩;symm;rw[e];symm;simp! [gS,oq,gw,iu,bN,zV,pick,hr])
 generalize he:(List.range rs.length).filter (pick rs Row.iB)=es at ex;let GO:es.length≤100:=by rw[←he];have:=vS (pick rs Row.iB) (List.range rs.length);simp at this;omega
 let hs1:ax 2 (cW (cq (ag (aL bJ (ag (jV 0) ai)) ai)) [0] (jB (ae aP (ae au (ae au (jV 1) (jV 0)) (jC (.int 0))) (jC (.str "end")))) (jV 0)) [.al\Row.d∘rs,.al\.int n,none]=some (.nx [.al\Row.d∘rs,.al\.int n,.bo\⇑es]):=by
  simp! [ax,cW,cq,aL,ag,ai,jV,gz,gy,id_eq,oq,dE,ln,cQ,and_self,if_true,ht];rw[show gG [.al\Row.d∘rs,.al\D.int n,none] [0]=[.al\Row.d∘rs] from rfl,uI,ex,oq,jO (by rw[dW];omega),oq];rfl
 unfold x8 fn Ji;simp only[cv,bD,bG];rw[av hs1];let hq:=L3 (m:=.bo) (n:=.un) es;generalize kr:es.isEmpty=b at hq;let hb:b=false→es≠[]:=λz e=>by subst e;rw[←kr]at z;cases z
 let hc:∀c,(cI (jB (ae gB (jV 2) (bL ai))) (jB (ae i5 (ae bh (jV 1) (jC (.int 3))) (jC (.int 0))))) [.al\Row.d∘rs,.al\.int n,.bo\⇑es]=some c→(c=false→b=false):=λc h hf=>by
  subst hf;revert h;nofun;rw[hq];symm;cases b with
  |true=>intro h;cases h
  |false=>intro _;rfl
 let iF:∃c,(cI (jB (ae gB (jV 2) (bL ai))) (jB (ae i5 (ae bh (jV 1) (jC (.int 3))) (jC (.int 0))))) [.al\Row.d∘rs,.al\.int n,.bo\⇑es]=some c:=by
  nofun;rw[hq];symm;cases b<;>exact⟨_,rfl⟩
 let⟨c,iF⟩:=iF;cases c with
 |true =>
  refine⟨.en,?_,.inl rfl⟩;rw[dJ (e':=[.al\Row.d∘rs,.al\.int n,.bo\⇑es]) (m:=.fr) (d:=Row.d .en) (by rw[bF iF];rfl)];rfl
 |false =>
  let gi:=hb (hc false iF rfl);let⟨a,l,rfl⟩:=List.exists_cons_of_ne_nil gi;let hm:a∈(List.range rs.length).filter (pick rs Row.iB):=by rw[he];exact cg
  let⟨h1,h2⟩:=mP.mp hm;let h1:=iC.mp h1;let ha:a≠0:=λz=>by
   subst z;unfold pick at h2;split at h2
   ·rename_i r hr;rw[aa7.mp h2]at hr;exact h0 hr
   ·cases h2
  refine⟨.go (n/3%(a:Int)),?_,.inr ⟨by omega,_,rfl⟩⟩;rw[av (e':=[.al\Row.d∘rs,.al\.int n,.bo\.lst (ak (a::l))]) (by rw[bE iF];rfl)];nofun;rw[show ak (a::l)=↥a::ak l from rfl,Et];symm;rw[oZ ∅];symm;rfl
abbrev wt:Row→Nat
 |.en=>0
 |.go _=>1
 |_=>2
abbrev Wt(rs:List Row):Nat:=(rs.map wt).sum
def ade(r:Row):wt r≤2:=by cases r<;>simp[wt]
def my(rs:List Row)(x:Row):Wt (rs++[x])=Wt rs+wt x:=by simp[Wt]
theorem uW:∀{rs:List Row}{j:Nat}{x r:Row},rs[j]?=some x→wt r≤wt x→Wt (rs.set j r)≤Wt rs
 |[],_,_,_,h,_=>by simp at h
 |y::l,0,x,r,h,hw=>by
  have:y=x:=by simpa using h
  subst this;simp[Wt];omega
 |y::l,j+1,x,r,h,hw=>by
  have:=uW (rs:=l) (j:=j) (by simpa using h) hw;simp[Wt]at this ⊢;omega
def yD{r:Row}(h:Row.flat r=true):wt r=2:=by cases r<;>first|rfl|cases h
structure RG (rs:List Row):Prop where
 r0:∀r,rs[0]?=some r→Row.iB r=false∧Row.gC r=false
 pt:∀(i:Nat) a t,rs[i]?=some (.pt a t)→(t=-1∧i+1<rs.length)∨0≤t
def RG.nil:RG []:=⟨λr h=>by simp at h,λi a t h=>by simp at h⟩
def gU{rs:List Row}{x r:Row}{i:Nat}(h:(rs++[x])[i]?=some r):rs[i]?=some r∨(i=rs.length∧r=x):=by
 rw[List.getElem?_append]at h;split at h
 ·exact .inl h
 ·rename_i hi;have:i-rs.length=0:=by
   rcases Nat.eq_zero_or_pos (i-rs.length)with z|z
   ·exact z
   ·rw[og (by simp;omega)]at h;cases h
  rw[this]at h;simp at h;exact .inr ⟨by omega,h.symm⟩
def RG.one{rs:List Row}{r:Row}(h:RG rs)(e:Row.iB r=false)(g:Row.gC r=false)(p:∀a t,r=.pt a t→0≤t):RG (rs++[r]):=by
 refine⟨λx hx=>?_,λi a t hx=>?_⟩
 ·rcases gU hx with z|⟨_,rfl⟩
  ·exact h.r0 x z
  ·exact⟨e,g⟩
 ·rcases gU hx with z|⟨_,z⟩
  ·rcases h.pt i a t z with⟨w,y⟩|w
   ·exact .inl ⟨w,by simp;omega⟩
   ·exact .inr w
  ·exact .inr (p a t z.symm)
def RG.two{rs:List Row}{a:Ko}{y:Row}(h:RG rs)(hy:∀b t,y≠.pt b t):RG (rs++[.pt a (-1)]++[y]):=by
 refine⟨λx hx=>?_,λi b t hx=>?_⟩
 ·rcases gU hx with z|⟨z,_⟩
  ·rcases gU z with z|⟨_,rfl⟩
   ·exact h.r0 x z
   ·exact⟨rfl,rfl⟩
  ·simp at z
 ·rcases gU hx with z|⟨_,z⟩
  ·rcases gU z with z|⟨z,w⟩
   ·rcases h.pt i b t z with⟨w,y⟩|w
    ·exact .inl ⟨w,by simp;omega⟩
    ·exact .inr w
   ·cases w;exact .inl ⟨rfl,by simp;omega⟩
  ·exact absurd z.symm (hy b t)
def ra{e:Ev}{k:Nat}{rs:List Row}{r:Row}{f:Qqj}(he:e[k]?=some (.bo\Row.d∘rs))(hf:f e=.fr\r.d)(hl:rs.length≤1000):cE k f e=some (.nx (e.set k (.bo\.lst ((rs++[r]).map Row.d)))):=by
 let s:rs.length<sizeLine:=eD hl (by decide);simp! [cE,hf,oq,iq,if_true,dZ,he,own,ln,s,List.map_append,mq,mn]
def Yv(A0 A1:Qzq)(fs:Qjz)(hf:0<fs.length)(ds:List De)(hd:0<ds.length)(rs:List Row)(h:RG rs)(hl:rs.length≤200)(k c:Int)(o7:Qzq) :
  ∃bM bU,xM [A0,A1,.bo\.str∘fs,.bo\ao∘ds,.bo\Row.d∘rs,.al\.int k,.al\.int c,o7]=some (.nx [A0,A1,.bo\.str∘fs,.bo\ao∘ds,.bo\Row.d∘bM,.al\.int k,.al\.int c,bU])∧RG bM∧bM.length≤rs.length+2∧Wt bM≤Wt rs+3:=by
 let⟨x,hx⟩:=oV c k;let⟨r,hr,p1,p2,p3⟩:=NB c x fs hf ds hd;unfold xM;rw[av (e':=[A0,A1,.bo\.str∘fs,.bo\ao∘ds,.bo\Row.d∘rs,.al\.int k,.al\.int c,.fr\.int x]) (by ac_rfl)];rw[av (ra (rs:=rs) (r:=r) rfl (by symm;rw[hr]) ∅)];simp! [tz,tq];by_cases q1:c%11=9
 ·let⟨a,rfl⟩:=p3 ∅;rw[av (e':=[A0,A1,.bo\.str∘fs,.bo\ao∘ds,.bo\.lst ((rs++[Row.pt a (-1)]++[Row.en]).map Row.d),.al\.int k,.al\.int c,.fr\.int x]) (by
   rw[bF (by infer_instance)];exact ra (r:=.en) rfl rfl (by simp;omega))]
  rw[bE (by nofun;simp only[q1];rfl)];exact⟨_,_,rfl,h.two (λ_ _ z=>nomatch z),by simp,by rw[my,my];show _+2+0≤_;omega⟩
 rw[av (e':=[A0,A1,.bo\.str∘fs,.bo\ao∘ds,.bo\.lst ((rs++[r]).map Row.d),.al\.int k,.al\.int c,.fr\.int x]) (by
  rw[bE (by infer_instance)];rfl)]
 by_cases q2:c%11=10
 ·let⟨a,rfl⟩:=p3 ∅;rw[bF (by infer_instance)];exact⟨_,_,ra (r:=.go (x/720%60)) rfl (by nofun;rfl) (by simp;omega),h.two (λ_ _ z=>nomatch z),by simp,by rw[my,my];exact aW _⟩
 ·rw[bE (by infer_instance)];refine⟨_,_,rfl,?_,by simp,by rw[my];have:=ade r;omega⟩;by_cases q3:c%11<7
  ·have:=p1 q3;refine h.one ?_ ?_ ?_<;>cases r<;>simp_all [Row.flat,Row.iB,Row.gC]
  ·let⟨a,t,rfl,ht⟩:=p2 ∅ ∅;exact h.one rfl rfl λb s e=>by cases e;exact ht
def WB{cs:Qxk}{i:Nat}{d:D}(h:(bY (cs.map D.int))[i]?=some d):∃c:Int,d=.tup [.int i,.int c]:=by
 unfold bY at h;rw[sx,cA]at h;cases e:cs[i]? with
 |none=>rw[e]at h;cases h
 |some r=>rw[e]at h;cases h;exact⟨r,rfl⟩
structure RF (rs:List Row):Prop where
 pos:0<rs.length
 r0:∀t,rs[0]?≠some (.go t)
 pt:∀(i:Nat) a t,rs[i]?=some (.pt a t)→i+1<rs.length∧((t=-1∧i+2<rs.length)∨0≤t)
 fl:∀(i:Nat) r,rs[i]?=some r→Row.flat r=true→i+1<rs.length
def RG.rf{rs:List Row}{x:Row}(h:RG rs)(hx:x=.en∨(0<rs.length∧∃t,x=.go t)):RF (rs++[x]):=by
 let lt:∀{i:Nat}{r:Row},rs[i]?=some r→i<rs.length:=λz=>(a9.mp z).1;refine⟨by simp,λt ht=>?_,λi a t ht=>?_,λi r hr hf=>?_⟩
 ·rcases gU ht with z|⟨z,w⟩
  ·have:=(h.r0 _ z).2;simp[Row.gC]at this
  ·rcases hx with rfl|⟨hp,_⟩
   ·cases w
   ·omega
 ·rcases gU ht with z|⟨z,w⟩
  ·have:=lt z;refine⟨by simp;omega,?_⟩;rcases h.pt i a t z with⟨w,y⟩|w
   ·exact .inl ⟨w,by simp;omega⟩
   ·exact .inr w
  ·rcases hx with rfl|⟨_,t,rfl⟩<;>cases w
 ·rcases gU hr with z|⟨z,rfl⟩
  ·have:=lt z;simp;omega
  ·rcases hx with rfl|⟨_,t,rfl⟩<;>cases hf
def WC(ns cs:Qxk)(hc:cs.length≤20):∃rs,xZ [.int∘ns,.int∘cs]=.un\Row.d∘rs∧RF rs∧rs.length≤100∧Wt rs≤61:=by
 let⟨c0,h0⟩:=oX ns 0 ∅;let⟨fs,lY,Hu⟩:=C6 c0;let⟨ds,Hv,mX⟩:=C7 ns fs ∅;let⟨nu,Te⟩:=C1 ns 58 ∅;let⟨e',l1,rs,o5,o6,o7,he,hg,hl,hw⟩:=du (g:=gT 2 (bR (gN 5) (bR (gN 6) dX))) (b:=xM) (m:=.al) (ds:=bY (cs.map D.int)) (e:=[.al\.int∘ns,.al\.int∘cs,.bo\.str∘fs,.bo\ao∘ds,.bo\.lst ([].map Row.d),none,none,none])
  (λi e=>∃(rs:List Row) (o5 o6 o7:Qzq),e=[.al\.int∘ns,.al\.int∘cs,.bo\.str∘fs,.bo\ao∘ds,.bo\Row.d∘rs,o5,o6,o7]∧RG rs∧(i≤cs.length→rs.length≤2*i)∧Wt rs≤3*i)
  ⟨[],none,none,none,rfl,RG.nil,λ_=>aW _,aW _⟩
  (λi d e hd bu=>by
   let⟨rs,o5,o6,o7,he,hg,hl,hw⟩:=bu;subst he;let hi:i<cs.length:=by
    have:=(a9.mp hd).1;simpa[bY]using this
   let⟨c,rfl⟩:=WB hd;let hl:=hl ∅;let⟨bM,bU,q1,q2,q3,q4⟩:=Yv (.al\.int∘ns) (.al\.int∘cs) fs ∅ ds ∅ rs hg ∅ (i:Int) c o7;exact⟨_,_,rfl,q1,bM,_,_,bU,rfl,q2,λ_=>by omega,by omega⟩)
 subst he;let hl:rs.length≤80:=by
  have:=hl (by simp[bY]);simp[bY]at this;omega
 let⟨x,hx,Tf⟩:=Yu rs nu ∅ (λz=>by have:=(hg.r0 _ z).1;simp[Row.iB]at this);let hw:Wt (rs++[x])≤61:=by
  have:wt x≤1:=by rcases Tf with rfl|⟨_,t,rfl⟩<;>simp[wt]
  rw[my];simp[bY]at hw;omega
 refine⟨rs++[x],?_,hg.rf Tf,by simp;omega,hw⟩;unfold xZ fn IJ;simp only[cv,bD,bG];rw[av (e':=[.al\.int∘ns,.al\.int∘cs,.bo\.str∘fs,none,none,none,none,none]) (by symm;rw[h0];symm;rw[Hu];symm)];rw[av (e':=[.al\.int∘ns,.al\.int∘cs,.bo\.str∘fs,.bo\ao∘ds,none,none,none,none]) (by symm;rw[mX];symm)];rw[av (e':=[.al\.int∘ns,.al\.int∘cs,.bo\.str∘fs,.bo\ao∘ds,.bo\.lst ([].map Row.d),none,none,none]) rfl];rw[av (e':=[.al\.int∘ns,.al\.int∘cs,.bo\.str∘fs,.bo\ao∘ds,.bo\Row.d∘rs,o5,o6,o7]) (by
  rw[bT,show aZ 1 [.al\.int∘ns,.al\.int∘cs,.bo\.str∘fs,.bo\ao∘ds,.bo\.lst ([].map Row.d),none,none,none]=[.al\.int∘ns,.al\.int∘cs,.bo\.str∘fs,.bo\ao∘ds,.bo\.lst ([].map Row.d),none,none,none] from rfl];simp! [aU,gj,ag,jV,ai,gz,gy,oq,id_eq,cf,oy];exact l1)]
 symm;rw[Te];symm;rw[hx];symm;rw[M0 (by decide) (by decide) (by simp only[ln,List.length_cons,List.length_nil];exact dM (show rs.length+(0+1)≤200 by omega) (by decide))];rw[show mJ .bo .un=.fr from rfl,M6];symm;rw[km];rfl
abbrev intAt(k:Nat)(e:Ev):Nat:=match e[k]? with
 |some (some (_,.int g))=>g.toNat
 |_=>0
def Yw{rs:List Row}(h:RF rs)(hl:rs.length≤200)(t:Int):∃g:Int,x9 [Row.d∘rs,.int t]=.fr\.int g∧0≤g∧g<rs.length:=by
 let hp:=h.pos;let⟨e',l1,⟨g,he,hg⟩,_⟩:=JD (c:=xS) (b:=CJ) (e:=[.al\Row.d∘rs,.fr\.int (t%rs.length)])
  (λe=>∃g:Nat,e=[.al\Row.d∘rs,.fr\↥g]∧g<rs.length)
  (intAt 1)
  ⟨(t%rs.length).toNat,by rw[vR (gO _ ∅)],by have:=gZ t (show(0:Int)<rs.length by omega);have:=gO t (show(rs.length:Int)≠0 by omega);omega⟩
  (λe bu=>by
   let⟨g,he,hg⟩:=bu;subst he;let hr:rs[g]?=some (rs[g]'hg):=by simp
   generalize rs[g]'hg=r at hr;let e1:=jS hr;let hC:xS [.al\Row.d∘rs,.fr\↥g]=some (Row.gC r):=by
    unfold xS;symm;rw[e1];symm;simp! [gS,oq,gw,iu,bN,sg]
   cases oI:Row.gC r with
   |false=>exact .inl (by rw[hC,oI])
   |true =>
    let⟨t',rfl⟩:=D6.mp oI;let h0:g≠0:=λz=>by subst z;exact h.r0 t' hr
    refine .inr ⟨by rw[hC,oI],[.al\Row.d∘rs,.fr\.int ((g-1:Nat):Int)],?_,⟨g-1,rfl,by omega⟩,?_⟩
    ·unfold CJ;symm;rw[show(g:Int)-1=((g-1:Nat):Int) by omega]
    ·simp only[intAt,gz,gy];omega)
 subst he;refine⟨g,?_,by omega,by omega⟩;unfold x9 fn Jj;simp only[cv,bD,bG];rw[av (e':=[.al\Row.d∘rs,.fr\.int (t%rs.length)]) (by ac_rfl)];rw[av l1];rfl
def aa8{r:Row}:Row.pW r=true↔∃a t,r=.pt a t:=by cases r<;>simp[Row.pW]
def Hw(m n:M)(a:Ko)(t:Int):au (m,Row.d (.pt a t)) (n,.int 2)=some (bf m,.int t):=rfl
def tp3(a:Ko)(t:Int):ly [(M.fr,D.str "part"),(.fr,kD a),(.fr,.int t)]=some (.fr,Row.d (.pt a t)):=rfl
def tp2(t:Int):ly [(M.fr,D.str "go"),(.fr,.int t)]=some (.fr,Row.d (.go t)):=rfl
def aa9{ro:List Row}(h:RF ro)(hl:ro.length≤200)(A0 A1 A2:Qzq)(rs:List Row)(hr:rs.length≤200){i:Nat}{r:Row}(hi:ro[i]?=some r) :
  ∃r' o6,xA [A0,A1,A2,.fr\Row.d∘ro,.bo\Row.d∘rs,.fr\↥i,.fr\r.d]=some (.nx [A0,A1,A2,.fr\Row.d∘ro,.bo\.lst ((rs++[r']).map Row.d),.fr\↥i,o6])∧(∀m∈bA i r',0≤m∧m<ro.length)∧wt r'=wt r∧∀a t,r'=.pt a t→t≠(i:Int)+1:=by
 let hp:=h.pos;let aX:i<ro.length:=(a9.mp hi).1;let fin:∀r':Row,(wt r'=wt r∧∀a t,r'=.pt a t→t≠(i:Int)+1)→(∀m∈bA i r',0≤m∧m<ro.length)→∀f,f [A0,A1,A2,.fr\Row.d∘ro,.bo\Row.d∘rs,.fr\↥i,.fr\r.d]=some (.nx [A0,A1,A2,.fr\Row.d∘ro,.bo\Row.d∘rs,.fr\↥i,.fr\r'.d]) →
   ∃r' o6,aq f (cE 4 (jV 6)) [A0,A1,A2,.fr\Row.d∘ro,.bo\Row.d∘rs,.fr\↥i,.fr\r.d]=some (.nx [A0,A1,A2,.fr\Row.d∘ro,.bo\.lst ((rs++[r']).map Row.d),.fr\↥i,o6])∧(∀m∈bA i r',0≤m∧m<ro.length)∧wt r'=wt r∧∀a t,r'=.pt a t→t≠(i:Int)+1:=λr' hw h1 f h2=>by
  refine⟨r',.fr\r'.d,?_,h1,hw⟩;rw[av h2];exact ra (r:=r') rfl rfl ∅
 let w1:∀e:Ev,e[6]?=some (.fr\r.d)→(jB (ae aP (ae au (jV 6) (jC (.int 0))) (jC (.str "part")))) e=some (Row.pW r):=λe he=>by
  simp! [jB,ae,jV,jC,he,id_eq,oq,gS,yK,iu,bN,Fs]
 let w2:∀e:Ev,e[6]?=some (.fr\r.d)→(jB (ae aP (ae au (jV 6) (jC (.int 0))) (jC (.str "go")))) e=some (Row.gC r):=λe he=>by
  simp! [jB,ae,jV,jC,he,id_eq,oq,gS,yK,iu,bN,sg]
 let zW:∀{a b:Qqx}{e:Ev},a e=some false→cP a b e=some false:=λ{a b e} h=>by simp[cP,h]
 let Ft:∀{a b:Qqx}{e:Ev},a e=some true→cP a b e=b e:=λ{a b e} h=>by simp[cP,h]
 unfold xA;by_cases jK:Row.pW r=true
 ·let⟨a,t,rfl⟩:=aa8.mp jK;let⟨n1,n2⟩:=h.pt i a t hi;by_cases q1:t=-1
  ·refine fin (.pt a ((i:Int)+2)) ⟨rfl,λ_ _ e=>by cases e;omega⟩ (λm hm=>?_) _ ?_
   ·have:m=(i:Int)+1∨m=(i:Int)+2:=by simpa[aN.bA]using hm
    rcases n2 with⟨_,z⟩|z<;>omega
   ·rw[bF (by rw[Ft (by rw[w1 _ rfl,jK])];simp! [jB,ae,cj,jV,jC,gz,gy,id_eq,oq,Hw,lz,iT,bN,q1,decide_true])]
    ac_rfl
  ·let n3:0≤t:=by rcases n2 with⟨z,_⟩|z<;>omega
   let m0:=gO t (show(ro.length:Int)≠0 by omega);let m1:=gZ t (show(0:Int)<ro.length by omega);by_cases q2:t%ro.length=(i:Int)+1
   ·refine fin (.pt a (i:Int)) ⟨rfl,λ_ _ e=>by cases e;omega⟩ (λm hm=>?_) _ ?_
    ·have:m=(i:Int)+1∨m=(i:Int):=by simpa[aN.bA]using hm
     omega
    ·rw[bE (by rw[Ft (by rw[w1 _ rfl,jK])];simp! [jB,ae,cj,jV,jC,gz,gy,id_eq,oq,Hw,lz,iT,bN,q1,decide_false])];rw[bF (by infer_instance)]
     ac_rfl
   ·refine fin (.pt a (t%ro.length)) ⟨rfl,λ_ _ e=>by cases e;exact q2⟩ (λm hm=>?_) _ ?_
    ·have:m=(i:Int)+1∨m=t%ro.length:=by simpa[aN.bA]using hm
     omega
    ·rw[bE (by rw[Ft (by rw[w1 _ rfl,jK])];simp! [jB,ae,cj,jV,jC,gz,gy,id_eq,oq,Hw,lz,iT,bN,q1,decide_false])];rw[bE (by infer_instance)];rw[bF (by infer_instance)]
     ac_rfl
 ·let jK:Row.pW r=false:=by simpa using jK
  by_cases oI:Row.gC r=true
  ·let⟨t,rfl⟩:=D6.mp oI;let⟨g,eg,g0,g1⟩:=Yw h hl t;refine fin (.go g) ⟨rfl,λ_ _ e=>nomatch e⟩ (λm hm=>?_) _ ?_
   ·have:m=g:=by simpa[aN.bA]using hm
    omega
   ·rw[bE (zW (by rw[w1 _ rfl,jK])),bE (zW (by rw[w1 _ rfl,jK])),bE (by infer_instance),bF (by infer_instance)]
    ac_rfl
  ·let oI:Row.gC r=false:=by simpa using oI
   refine fin r ⟨rfl,λ_ _ e=>by subst e;cases jK⟩ (λm hm=>?_) _ ?_
   ·cases r with
    |en=>simp[aN.bA]at hm
    |go t=>cases oI
    |pt a t=>cases jK
    |rk x s a b =>
     have:=h.fl i _ hi rfl;have:m=(i:Int)+1:=by simpa[aN.bA]using hm
     omega
    |cp x a =>
     have:=h.fl i _ hi rfl;have:m=(i:Int)+1:=by simpa[aN.bA]using hm
     omega
    |sy a =>
     have:=h.fl i _ hi rfl;have:m=(i:Int)+1:=by simpa[aN.bA]using hm
     omega
   ·rw[bE (zW (by rw[w1 _ rfl,jK])),bE (zW (by rw[w1 _ rfl,jK])),bE (by infer_instance),bE (by infer_instance)];rfl
theorem Good.set{rs:List Row}{j:Nat}{r:Row}(h:Good rs)(hj:∀m∈aN.bA j r,0≤m∧m<rs.length)(hn:∀a t,r=.pt a t→t≠(j:Int)+1):Good (rs.set j r):=by
 refine⟨by rw[gd];exact h.pos,λn x hx m hm=>?_,λn a t hx=>?_⟩
 ·rw[gd];rw[mR]at hx;split at hx
  ·rename_i e;subst e;split at hx
   ·cases hx;exact hj m hm
   ·cases hx
  ·exact h.bA n x hx m hm
 ·rw[mR]at hx;split at hx
  ·rename_i e;subst e;split at hx
   ·cases hx;exact hn a t rfl
   ·cases hx
  ·exact h.np n a t hx
def mj{e:Ev}{k j:Nat}{mo m':M}{rs:List Row}{r:Row}{f g:Qqj}(ho:own mo=true)(he:e[k]?=some (some (mo,Row.d∘rs)))(hf:f e=.fr\r.d)(hg:g e=some (m',↥j))(hj:j<rs.length) :
  fD k g f e=some (.nx (e.set k (some (mo,.lst ((rs.set j r).map Row.d))))):=by
 let qB:dh (rs.map Row.d).length (j:Int)=some j:=by
  unfold dh;rw[ln,if_pos ∅,if_pos ∅];simp
 simp! [fD,hf,hg,oq,lj,iq,if_true,dZ,he,ho,qB,List.map_set]
def abb(r:Row):eE (.str r.word) [.str "reckon",.str "copy",.str "say"]=Row.flat r:=by
 cases r with
 |rk x s a b=>exact(by decide +kernel:eE (.str ("reckon" : Str)) [.str "reckon",.str "copy",.str "say"]=true)
 |cp x a=>exact(by decide +kernel:eE (.str ("copy" : Str)) [.str "reckon",.str "copy",.str "say"]=true)
 |sy a=>exact(by decide +kernel:eE (.str ("say" : Str)) [.str "reckon",.str "copy",.str "say"]=true)
 |go t=>exact(by decide +kernel:eE (.str ("go" : Str)) [.str "reckon",.str "copy",.str "say"]=false)
 |pt a t=>exact(by decide +kernel:eE (.str ("part" : Str)) [.str "reckon",.str "copy",.str "say"]=false)
 |en=>exact(by decide +kernel:eE (.str ("end" : Str)) [.str "reckon",.str "copy",.str "say"]=false)
def L5(m n:M)(r:Row)(neg:Bool):ft neg (m,.str r.word) (n,.tup [.str "reckon",.str "copy",.str "say"])=some (.fr,.bl (if neg then !Row.flat r else Row.flat r)):=by
 rw[←abb r];rfl
def OQ{r:Row}(h:Row.flat r=true):∃a:Ko,∀m n:M,au (m,r.d) (n,.int 1)=some (bf m,kD a):=by
 cases r with
 |rk x s a b=>exact⟨.inr x,λ_ _=>rfl⟩
 |cp x a=>exact⟨.inr x,λ_ _=>rfl⟩
 |sy a=>exact⟨a,λ_ _=>rfl⟩
 |go t=>cases h
 |pt a t=>cases h
 |en=>cases h
def DJ{rs:List Row}(h:Good rs){i:Nat}{r:Row}(hi:rs[i]?=some r)(hf:Row.flat r=true):i+1<rs.length:=by
 have:=h.bA i r hi ((i:Int)+1) (by cases r<;>simp_all [Row.flat,aN.bA]);omega
set_option tactic.hygienic true in
def L6{rs:List Row}{p:Row→Bool}{n:Nat}(h:pick rs p n=true):∃r,rs[n]?=some r∧p r=true:=by
 unfold pick at h;split at h
 ·rename_i r hr;exact⟨r,hr,h⟩
 ·cases h
def J0{rs:List Row}{mo:M}(he:bf mo=.fr)(hn:∀d:D,¬(mo=.nb)){ks:Qxj}(hk:∀k∈ks,k<rs.length) :
  dY (jB (ae (ft false) (ae au (ae au (jV 1) (jV 0)) (jC (.int 0))) (aY (ag (jC (.str "reckon")) (ag (jC (.str "copy")) (ag (jC (.str "say")) ai)))))) (jV 0) .fr [some (mo,Row.d∘rs)] (ak ks)=some ((ak (ks.filter (pick rs Row.flat))).map λx=>(M.fr,x)):=by
 refine tU ks λk qC=>?_;let aX:=hk k qC;let hr:rs[k]?=some (rs[k]'aX):=by simp
 let e:=jS hr;refine⟨?_,rfl⟩;simp! [jB,ae,jV,jC,aY,ag,ai,gz,gy,id_eq,oq,cZ,e,oy,he,gS,yK];rw[show ly [(M.fr,D.str "reckon"),(.fr,.str "copy"),(.fr,.str "say")]=some (.fr,.tup [.str "reckon",.str "copy",.str "say"])from rfl,oq,L5,oq,if_neg bx];simp only[bN,pick,hr]
def WD(N:Nat):cu 2 N=ak ((List.range N).map λk=>k+2):=by
 unfold cu ak;rw[gY];exact sC λk _=>by show D.int (2+(k:Int))=D.int ((k+2:Nat):Int);congr 1;omega
def WG{rs:List Row}(h:Good rs)(hl:rs.length≤200)(c:Int):∃bM:List Row,xq [Row.d∘rs,.int c]=some (Row.d∘bM)∧Good bM∧bM.length=rs.length∧Wt bM≤Wt rs:=by
 let hp:=h.pos;let cQ:-4611686018427387904≤(2:Int)∧(2:Int)<4611686018427387904∧-4611686018427387904≤(rs.length:Int)∧(rs.length:Int)<4611686018427387904:=by omega
 let fin:∀{bM:List Row}{e:Ev},nM (.rt e .bi (Row.d∘bM))=some (Row.d∘bM):=λ{bM e}=>by
  simp only[nM,own,gk,oU,and_self,if_true]
 let ex:=J0 (rs:=rs) (mo:=.bi) rfl (λ_ z=>nomatch z) (ks:=(List.range ((rs.length:Int)-2).toNat).map λk=>k+2) (λk hk=>by
  let⟨j,hj,rfl⟩:=bP.mp hk;have:=iC.mp hj;omega)
 generalize lY:((List.range ((rs.length:Int)-2).toNat).map λk=>k+2).filter (pick rs Row.flat)=fl at ex;let Fu:fl.length≤1000:=by
  rw[←lY];have:=vS (pick rs Row.flat) ((List.range ((rs.length:Int)-2).toNat).map λk=>k+2);simp at this;simp;omega
 let s1:ax 2 (cW (vy (ag (jC (.int 2)) (ag (aL bJ (ag (jV 0) ai)) ai))) [0] (jB (ae (ft false) (ae au (ae au (jV 1) (jV 0)) (jC (.int 0))) (aY (ag (jC (.str "reckon")) (ag (jC (.str "copy")) (ag (jC (.str "say")) ai)))))) (jV 0)) [.bi\Row.d∘rs,.al\.int c,none,none]=some (.nx [.bi\Row.d∘rs,.al\.int c,.bo\⇑fl,none]):=by
  simp! [ax,cW,vy,aL,ag,ai,jV,jC,gz,gy,id_eq,oq,dE,ln,cQ,and_self,if_true];rw[show gG [.bi\Row.d∘rs,.al\D.int c,none,none] [0]=[.bi\Row.d∘rs] from rfl,WD,ex,oq,jO (by rw[dW];exact Fu),oq];rfl
 unfold xq lF HR;rw[show(jj [0] [Row.d∘rs,.int c]++List.replicate (4 - [Row.d∘rs,.int c].length) none:Ev)=[.bi\Row.d∘rs,.al\.int c,none,none] from rfl];rw[av s1];let Hx:rs[0]?=some (rs[0]'hp):=by simp
 generalize hx0:rs[0]'hp=x0 at Hx;let a0:=jS Hx;let hb:(cI (jB (ae gB (jV 2) (bL ai))) (jB (ae (ft true) (ae au (ae au (jV 0) (jC (.int 0))) (jC (.int 0))) (aY (ag (jC (.str "reckon")) (ag (jC (.str "copy")) (ag (jC (.str "say")) ai))))))) [.bi\Row.d∘rs,.al\.int c,.bo\⇑fl,none]=some (fl.isEmpty||!Row.flat x0):=by
  let e2:(jB (ae (ft true) (ae au (ae au (jV 0) (jC (.int 0))) (jC (.int 0))) (aY (ag (jC (.str "reckon")) (ag (jC (.str "copy")) (ag (jC (.str "say")) ai)))))) [.bi\Row.d∘rs,.al\.int c,.bo\⇑fl,none]=some (!Row.flat x0):=by
   simp! [jB,ae,jV,jC,aY,ag,ai,gz,gy,id_eq,oq,cZ];rw[show(0:Int)=((0:Nat):Int)from rfl,a0];simp! [oy,oq,Int.natCast_zero,gS];rw[show ly [(M.fr,D.str "reckon"),(.fr,.str "copy"),(.fr,.str "say")]=some (.fr,.tup [.str "reckon",.str "copy",.str "say"])from rfl,oq,L5,oq,if_pos rfl];rfl
  let e1:(jB (ae gB (jV 2) (bL ai))) [.bi\Row.d∘rs,.al\.int c,.bo\⇑fl,none]=some fl.isEmpty:=by
   simp! [jB,ae,jV,bL,ai,gz,gy,id_eq,oq];rw[show iR []=some (.un,.lst [])from rfl,oq,L3];rfl
  unfold cI;rw[e1,oq];cases fl.isEmpty with
  |true=>rfl
  |false=>rw[e2];rfl
 cases m6:(fl.isEmpty||!Row.flat x0) with
 |true =>
  rw[dJ (e':=[.bi\Row.d∘rs,.al\.int c,.bo\⇑fl,none]) (m:=.bi) (d:=Row.d∘rs) (by rw[bF (by rw[hb,m6])];rfl)];exact⟨rs,by rw[oq];exact fin,h,rfl,aW _⟩
 |false =>
  obtain⟨hfe,hx⟩:fl.isEmpty=false∧Row.flat x0=true:=by simpa using m6
  rw[fU (by rw[hb,m6])];let hfp:0<fl.length:=by
   cases fl with
   |nil=>cases hfe
   |cons a l=>simp
  let⟨la,qo,Hy⟩:=qQ (f:=λ(n:Nat)=>↥n) (l:=fl) (k:=c/4%fl.length) (gO _ ∅) (gZ _ ∅);rw[←lY]at qo;let⟨wY,wZ⟩:=mP.mp qo;let⟨r,hr,lZ⟩:=L6 wZ;let Qo:2≤la:=by let⟨j,_,rfl⟩:=bP.mp wY;omega
  let Hz:=DJ h hr lZ;let⟨a,ha⟩:=OQ lZ;let ar:=jS hr;rw[av (e':=[.bi\Row.d∘rs,.al\.int c,.bo\⇑fl,.fr\↥la]) (by
   simp! [ax,ae,jV,jC,aL,ag,ai,gz,gy,id_eq,oq,dE,dW];rw[div_ii ∅,oq,oZ ∅,oq,cZ,show ak fl=fl.map (λ(n:Nat)=>↥n)from rfl,Hy];rfl)]
  rw[av (mj (j:=la) (r:=.pt a 1) (mo:=.bi) (m':=.fr) rfl rfl (by
   simp! [aY,ag,ai,ae,jV,jC,gz,gy,id_eq,oq,cZ,ar,oy,ha];rfl) rfl ∅)]
  simp! [tz,tq];rw[av (mj (rs:=rs.set la (.pt a 1)) (j:=0) (r:=.go (la:Int)) (mo:=.bi) (m':=.fr) rfl rfl rfl rfl (by rw[gd];omega))];refine⟨(rs.set la (.pt a 1)).set 0 (.go (la:Int)),by rw[show(aF (jV 0)) _=some (.rt _ .bi (.lst (((rs.set la (.pt a 1)).set 0 (.go (la:Int))).map Row.d)))from rfl,oq];exact fin,?_,by simp,Nat.le_trans (uW (x:=x0) (by rw[List.getElem?_set_ne ∅];exact Hx) (by rw[yD hx];exact Nat.le_succ 1)) (uW hr (by rw[yD lZ];exact aW _))⟩;refine(h.set (λm hm=>?_) λb s e=>(by cases e;omega)).set (λm hm=>?_) λb s e=>nomatch e
  ·have:m=(la:Int)+1∨m=1:=by simpa[aN.bA]using hm
   omega
  ·have:m=(la:Int):=by simpa[aN.bA]using hm
   rw[gd];omega
def Yx{R:Qzz}{c:Int}(h1:D.cO R=true):jJ [0] [0] [(0,0),(1,1)] [(.bi,.lst R),(.al,.int c)]=true:=by
 simp[jJ,List.range_succ,own,gk,ib,h1]
def WH{m:M}{f:Int}:∀ks:Qxj,dY (jB (ae i5 (jV 0) (jV 1))) (jV 0) .fr [some (m,.int f)] (ak ks)=some ((ak (ks.filter λk=>decide (f<(k:Int)))).map λx=>(M.fr,x)):=λks =>
 tU ks λk _=>⟨by
  simp! [jB,ae,jV,gz,gy,id_eq,oq,pv,bN],rfl⟩
def Vo{fl:Qxj}(hs:fl.Pairwise (· < ·)){i:Nat}(hi:i+1<fl.length):∃f∈fl,fl[i]?=some f∧∃l∈fl,f<l:=by
 let h1:fl[i]?=some (fl[i]'∅):=by simp
 refine⟨fl[i]'∅,su _,h1,fl[i+1]'hi,su _,?_⟩;exact(List.pairwise_iff_getElem.mp hs) i (i+1) ∅ hi ∅
def Yy{rs:List Row}(h:Good rs)(hl:rs.length≤200)(c:Int):∃bM:List Row,xx [Row.d∘rs,.int c]=some (Row.d∘bM)∧Good bM∧bM.length=rs.length∧Wt bM≤Wt rs:=by
 let hp:=h.pos;let cQ:-4611686018427387904≤(rs.length:Int)∧(rs.length:Int)<4611686018427387904:=by omega
 let ht:(rs.length:Int).toNat=rs.length:=by omega
 let fin:∀{bM:List Row}{e:Ev},nM (.rt e .bi (Row.d∘bM))=some (Row.d∘bM):=λ{bM e}=>by
  simp only[nM,own,gk,oU,and_self,if_true]
 let ex:=J0 (rs:=rs) (mo:=.bi) rfl (λ_ z=>nomatch z) (ks:=List.range rs.length) (λk hk=>iC.mp hk);generalize lY:(List.range rs.length).filter (pick rs Row.flat)=fl at ex;let Fu:fl.length≤1000:=by
  rw[←lY];have:=vS (pick rs Row.flat) (List.range rs.length);simp at this;simp;omega
 let adf:fl.Pairwise (· < ·):=by rw[←lY];exact List.Pairwise.filter _ List.pairwise_lt_range
 let Ti:∀n∈fl,∃r,rs[n]?=some r∧Row.flat r=true:=λn hn=>by
  rw[←lY]at hn;exact L6 (mP.mp hn).2
 let s1:ax 2 (cW (cq (ag (aL bJ (ag (jV 0) ai)) ai)) [0] (jB (ae (ft false) (ae au (ae au (jV 1) (jV 0)) (jC (.int 0))) (aY (ag (jC (.str "reckon")) (ag (jC (.str "copy")) (ag (jC (.str "say")) ai)))))) (jV 0)) [.bi\Row.d∘rs,.al\.int c,none,none,none,none,none]=some (.nx [.bi\Row.d∘rs,.al\.int c,.bo\⇑fl,none,none,none,none]):=by
  simp! [ax,cW,cq,aL,ag,ai,jV,jC,gz,gy,id_eq,oq,dE,ln,cQ,and_self,if_true,ht];rw[show gG [.bi\Row.d∘rs,.al\D.int c,none,none,none,none,none] [0]=[.bi\Row.d∘rs] from rfl,uI,ex,oq,jO (by rw[dW];exact Fu),oq];rfl
 unfold xx lF HW;rw[show(jj [0] [Row.d∘rs,.int c]++List.replicate (7 - [Row.d∘rs,.int c].length) none:Ev)=[.bi\Row.d∘rs,.al\.int c,none,none,none,none,none] from rfl];rw[av s1];by_cases q1:c%4=3
 ·let⟨bM,e1,g1,l1,w1⟩:=WG h hl c;rw[dJ (e':=[none,none,none,none,none,none,none]) (m:=.bi) (d:=Row.d∘bM) (by
   rw[bF (by nofun;simp only[q1,decide_true])];simp! [mC,ag,ai,jV,gz,gy,id_eq,oq,Yx (oU rs),if_true,mq,mn,e1])]
  exact⟨bM,by rw[oq];exact fin,g1,l1,w1⟩
 rw[fU (by nofun;simp only[q1,decide_false])];let hb:(cI (jB (ae gF (aL bJ (ag (jV 2) ai)) (jC (.int 2)))) (jB (ae aP (ae bh (jV 1) (jC (.int 2))) (jC (.int 0))))) [.bi\Row.d∘rs,.al\.int c,.bo\⇑fl,none,none,none,none]=some (decide ((fl.length:Int)<2)||decide (c%2=0)):=by
  nofun;rw[dW];cases decide ((fl.length:Int)<2)<;>rfl
 cases m6:(decide ((fl.length:Int)<2)||decide (c%2=0)) with
 |true =>
  rw[dJ (e':=[.bi\Row.d∘rs,.al\.int c,.bo\⇑fl,none,none,none,none]) (m:=.bi) (d:=Row.d∘rs) (by rw[bF (by rw[hb,m6])];rfl)];exact⟨rs,by rw[oq];exact fin,h,rfl,aW _⟩
 |false =>
  let h2:2≤fl.length:=by
   have:¬((fl.length:Int)<2):=by
    intro z;simp[z]at m6
   omega
  rw[fU (by rw[hb,m6])];let k0:=gO (c/4) (show((fl.length:Int)-1)≠0 by omega);let k1:=gZ (c/4) (show(0:Int)<(fl.length:Int)-1 by omega);let⟨f,hf,hfi,l0,hl0,aee⟩:=Vo adf (i:=(c/4%((fl.length:Int)-1)).toNat) ∅;let ef:L2.bp (ak fl) (c/4%((fl.length:Int)-1))=some (↥f):=by
   rw[jh k0 (by rw[dW];omega)];have:=(a9.mp hfi).2;simp only[ak,List.getElem_map,this]
  rw[av (e':=[.bi\Row.d∘rs,.al\.int c,.bo\⇑fl,.fr\↥f,none,none,none]) (by
   simp! [ax,ae,jV,jC,aL,ag,ai,gz,gy,id_eq,oq,dE,dW,yJ];rw[div_ii ∅,oq,oZ ∅,oq,cZ,ef];rfl)]
  generalize aX:fl.filter (λ(k:Nat)=>decide ((f:Int)<(k:Int)))=lt;let aey:0<lt.length:=by
   rw[←aX];exact List.length_pos_of_mem (mP.mpr ⟨hl0,by simpa using aee⟩)
  let aef:lt.length≤1000:=by
   rw[←aX];have:=vS (λk=>decide ((f:Int)<((k:Nat):Int))) fl;omega
  rw[av (e':=[.bi\Row.d∘rs,.al\.int c,.fr\⇑fl,.fr\↥f,.bo\⇑lt,none,none]) (by
   rw[bT,show aZ 2 [.bi\Row.d∘rs,.al\.int c,.bo\⇑fl,.fr\↥f,none,none,none]=[.bi\Row.d∘rs,.al\.int c,.fr\⇑fl,.fr\↥f,none,none,none] from rfl];simp! [ax,cW,bK,jV,gz,gy,id_eq,oq,cf,oy];rw[show gG [.bi\Row.d∘rs,.al\D.int c,.fr\⇑fl,.fr\↥f,none,none,none] [3]=[.fr\↥f] from rfl,WH,aX,oq,jO (by rw[dW];exact aef),oq];rfl)]
  let⟨la,qo,Hy⟩:=qQ (f:=λ(n:Nat)=>↥n) (l:=lt) (k:=c/256%lt.length) (gO _ ∅) (gZ _ ∅);rw[av (e':=[.bi\Row.d∘rs,.al\.int c,.fr\⇑fl,.fr\↥f,.bo\⇑lt,.fr\↥la,none]) (by
   simp! [ax,ae,jV,jC,aL,ag,ai,gz,gy,id_eq,oq,dE,dW];rw[div_ii ∅,oq,oZ ∅,oq,cZ,show ak lt=lt.map (λ(n:Nat)=>↥n)from rfl,Hy];rfl)]
  rw[←aX]at qo;let⟨aeg,Qo⟩:=mP.mp qo;let aez:f<la:=by simpa using Qo
  let⟨rf,lZ,HB⟩:=Ti f hf;let⟨rl,HC,Tj⟩:=Ti la aeg;let nf:=DJ h lZ HB;let nl:=DJ h HC Tj;let⟨a,ha⟩:=OQ HB;let arf:=jS lZ;let t0:=gO (c/16384) (show(rs.length:Int)≠0 by omega);let t1:=gZ (c/16384) (show(0:Int)<rs.length by omega);rw[av (e':=[.bi\Row.d∘rs,.al\.int c,.fr\⇑fl,.fr\↥f,.bo\⇑lt,.fr\↥la,.fr\.int (c/16384%rs.length)]) (by nofun)];generalize c/16384%(rs.length:Int)=t at t0 t1 ⊢;let pC:rs[rs.length-1]?=some (rs[rs.length-1]'∅):=by simp
  generalize rs[rs.length-1]'∅=rz at pC;let az:L2.bp (rs.map Row.d) (-1)=some rz.d:=by
   unfold L2.bp L2.dh;rw[if_neg (by decide),ln,if_pos ∅,oq,show(-1+(rs.length:Int)).toNat=rs.length-1 by omega,cA,pC];rfl
  let T1:∃t':Int,(0≤t'∧t'<rs.length)∧aM (jB (ae aP (ae au (ae au (jV 0) (cj fq (jC (.int 1)))) (jC (.int 0))) (jC (.str "go")))) (ax 6 (ae bh (jV 6) (ae bW (jV 3) (jC (.int 1))))) aR [.bi\Row.d∘rs,.al\.int c,.fr\⇑fl,.fr\↥f,.bo\⇑lt,.fr\↥la,.fr\.int t]=some (.nx [.bi\Row.d∘rs,.al\.int c,.fr\⇑fl,.fr\↥f,.bo\⇑lt,.fr\↥la,.fr\.int t']):=by
   let hc:(jB (ae aP (ae au (ae au (jV 0) (cj fq (jC (.int 1)))) (jC (.int 0))) (jC (.str "go")))) [.bi\Row.d∘rs,.al\.int c,.fr\⇑fl,.fr\↥f,.bo\⇑lt,.fr\↥la,.fr\.int t]=some (Row.gC rz):=by
    simp! [jB,ae,cj,jV,jC,gz,gy,id_eq,oq,lz,cZ,az,oy,gS,iu,bN,sg]
   cases hg:Row.gC rz with
   |true =>
    let m0:=gO t (show((f:Int)+1)≠0 by omega);let m1:=gZ t (show(0:Int)<(f:Int)+1 by omega);exact⟨t%((f:Int)+1),by omega,by rw[bF (by rw[hc,hg])];nofun⟩
   |false=>exact⟨t,⟨t0,t1⟩,by rw[bE (by rw[hc,hg])];rfl⟩
  let⟨t',b1,e1⟩:=T1;rw[av e1];let T2:∃t2:Int,(0≤t2∧t2<rs.length)∧aM (jB (nB gF ql (jV 3) (jV 6) (jV 5))) (ax 6 (ae bW (jV 5) (jC (.int 1)))) aR [.bi\Row.d∘rs,.al\.int c,.fr\⇑fl,.fr\↥f,.bo\⇑lt,.fr\↥la,.fr\.int t']=some (.nx [.bi\Row.d∘rs,.al\.int c,.fr\⇑fl,.fr\↥f,.bo\⇑lt,.fr\↥la,.fr\.int t2]):=by
   let hc:∃b,(jB (nB gF ql (jV 3) (jV 6) (jV 5))) [.bi\Row.d∘rs,.al\.int c,.fr\⇑fl,.fr\↥f,.bo\⇑lt,.fr\↥la,.fr\.int t']=some b:=by
    symm;cases decide ((f:Int)<t')<;>exact⟨_,rfl⟩
   let⟨b,hc⟩:=hc;cases b with
   |true=>exact⟨(la:Int)+1,by omega,by rw[bF hc];symm⟩
   |false=>exact⟨t',b1,by rw[bE hc];rfl⟩
  let⟨t2,b2,e2⟩:=T2;rw[av e2];let T3:∃t3:Int,(0≤t3∧t3<rs.length)∧aM (jB (ae aP (ae au (ae au (jV 0) (jV 6)) (jC (.int 0))) (jC (.str "go")))) (ax 6 (jC (.int 0))) aR [.bi\Row.d∘rs,.al\.int c,.fr\⇑fl,.fr\↥f,.bo\⇑lt,.fr\↥la,.fr\.int t2]=some (.nx [.bi\Row.d∘rs,.al\.int c,.fr\⇑fl,.fr\↥f,.bo\⇑lt,.fr\↥la,.fr\.int t3]):=by
   let at2:=Wg (rs:=rs) b2.1 b2.2;let hc:∃b,(jB (ae aP (ae au (ae au (jV 0) (jV 6)) (jC (.int 0))) (jC (.str "go")))) [.bi\Row.d∘rs,.al\.int c,.fr\⇑fl,.fr\↥f,.bo\⇑lt,.fr\↥la,.fr\.int t2]=some b:=by
    simp! [jB,ae,jV,jC,gz,gy,id_eq,oq,cZ,at2,oy,gS,iu,bN];exact⟨_,rfl⟩
   let⟨b,hc⟩:=hc;cases b with
   |true=>exact⟨0,by omega,by rw[bF hc];rfl⟩
   |false=>exact⟨t2,b2,by rw[bE hc];rfl⟩
  let⟨t3,b3,e3⟩:=T3;rw[av e3];rw[av (mj (j:=f) (r:=.pt a ((la:Int)+1)) (mo:=.bi) (m':=.fr) rfl rfl (by
   simp! [aY,ag,ai,ae,jV,jC,gz,gy,id_eq,oq,cZ,arf,oy,ha,DW];rfl) rfl ∅)]
  simp! [tz,tq];rw[av (mj (rs:=rs.set f (.pt a ((la:Int)+1))) (j:=la) (r:=.go t3) (mo:=.bi) (m':=.fr) rfl rfl rfl rfl (by rw[gd];omega))];refine⟨(rs.set f (.pt a ((la:Int)+1))).set la (.go t3),by rw[show(aF (jV 0)) _=some (.rt _ .bi (.lst (((rs.set f (.pt a ((la:Int)+1))).set la (.go t3)).map Row.d)))from rfl,oq];exact fin,?_,by simp,Nat.le_trans (uW (x:=rl) (by rw[List.getElem?_set_ne ∅];exact HC) (by rw[yD Tj];exact Nat.le_succ 1)) (uW lZ (by rw[yD HB];exact aW _))⟩;refine(h.set (λm hm=>?_) λb s e=>(by cases e;omega)).set (λm hm=>?_) λb s e=>nomatch e
  ·have:m=(f:Int)+1∨m=(la:Int)+1:=by simpa[aN.bA]using hm
   omega
  ·have:m=t3:=by simpa[aN.bA]using hm
   rw[gd];omega
def WK(ns:Qxk)(A1:Qzq)(fs:Qjz)(hf:0<fs.length)(ds:List De)(hd:0<ds.length)(rs:List Row)(hl:rs.length≤200)(i:Nat)(o6:Qzq) :
  ∃(r:Row) (cw:Qzq),xF [.al\.int∘ns,A1,.bo\.str∘fs,.bo\ao∘ds,.bo\Row.d∘rs,.fr\↥i,o6]=some (.nx [.al\.int∘ns,A1,.bo\.str∘fs,.bo\ao∘ds,.bo\.lst ((rs++[r]++[Row.go (2*(i:Int)-1)]).map Row.d),.fr\↥i,cw])∧Row.flat r=true:=by
 let⟨c,hc⟩:=oX ns (2+(i:Int)) ∅;let⟨x,hx⟩:=oV c (i:Int);let⟨r,hr,p1,_,_⟩:=NB (c/11*11+c%7) x fs hf ds hd;refine⟨r,.fr\.int c,?_,p1 ∅⟩;unfold xF;rw[av (e':=[.al\.int∘ns,A1,.bo\.str∘fs,.bo\ao∘ds,.bo\Row.d∘rs,.fr\↥i,.fr\.int c]) (by ac_rfl)];rw[av (ra (rs:=rs) (r:=r) rfl (by nofun;rw[hx];nofun;rw[hr]) ∅)];simp! [tz,tq];exact ra (rs:=rs++[r]) (r:=.go (2*(i:Int)-1)) rfl (by nofun;rfl) (by simp;omega)
def Vp(ns:Qxk)(many:Int)(h1:1≤many)(h2:many≤28):∃rs:List Row,xT [.int∘ns,.int many]=.un\Row.d∘rs∧Good rs∧rs.length≤58∧∀(n:Nat) a t,rs[n]?≠some (.pt a t):=by
  let⟨c0,h0⟩:=oX ns 0 ∅;let⟨fs,lY,Hu⟩:=C6 c0;let⟨ds,Hv,mX⟩:=C7 ns fs ∅;let⟨e',l1,rs,o5,o6,he,hl,hP⟩:=du (g:=gN 5) (b:=xF) (m:=.fr) (ds:=cu 0 many.toNat) (e:=[.al\.int∘ns,.al\.int many,.bo\.str∘fs,.bo\ao∘ds,.bo\.lst ([Row.go (2*many-1)].map Row.d),none,none])
    (λi e=>∃(rs:List Row) (o5 o6:Qzq),e=[.al\.int∘ns,.al\.int many,.bo\.str∘fs,.bo\ao∘ds,.bo\Row.d∘rs,o5,o6]∧rs.length=2*i+1∧((i:Int)≤many→∀(n:Nat) r,rs[n]?=some r→Row.flat r=true∨∃t,r=.go t∧(0≤t∨n=2)∧t<2*many+2))
    ⟨[Row.go (2*many-1)],none,none,rfl,rfl,λ_ n r hr=>by
      cases n with
      |zero=>simp at hr;subst hr;exact .inr ⟨_,rfl,.inl ∅,by omega⟩
      |succ n=>simp at hr⟩
    (λi d e hd bu=>by
      let⟨rs,o5,o6,he,hl,hP⟩:=bu;subst he;let⟨hi,rfl⟩:=mB hd;rw[show(0:Int)+(i:Int)=(i:Int) by omega];let⟨r,cw,q,hr⟩:=WK ns (.al\.int many) fs ∅ ds ∅ rs ∅ i o6;refine⟨_,_,rfl,q,_,_,cw,rfl,by simp;omega,λwV n x hx=>?_⟩;rcases gU hx with z|⟨z,rfl⟩
      · rcases gU z with z|⟨z,rfl⟩
        · exact hP ∅ n x z
        · exact .inl hr
      · refine .inr ⟨_,rfl,?_,by omega⟩
        simp at z;omega)
  subst he;rw[k6]at hl;let hP:=hP (by rw[k6];omega);unfold xT fn Io;simp only[cv,bD,bG];rw[av (e':=[.al\.int∘ns,.al\.int many,.bo\.str∘fs,none,none,none,none]) (by ac_rfl)];rw[av (e':=[.al\.int∘ns,.al\.int many,.bo\.str∘fs,.bo\ao∘ds,none,none,none]) (by ac_rfl)];rw[av (e':=[.al\.int∘ns,.al\.int many,.bo\.str∘fs,.bo\ao∘ds,.bo\.lst ([Row.go (2*many-1)].map Row.d),none,none]) (by ac_rfl)];rw[av (e':=[.al\.int∘ns,.al\.int many,.bo\.str∘fs,.bo\ao∘ds,.bo\Row.d∘rs,o5,o6]) (by
    let cQ:-4611686018427387904≤many∧many<4611686018427387904:=by omega
    simp! [aU,cq,ag,ai,jV,gz,gy,id_eq,oq,cQ,and_self,if_true];exact l1)]
  rw[av (mj (j:=2) (r:=.go (2*many+1)) (mo:=.bo) (m':=.fr) rfl rfl (by nofun;rfl) rfl ∅)];simp! [tz,tq];let np:∀(n:Nat) a t,(rs.set 2 (.go (2*many+1))++[Row.en])[n]?≠some (.pt a t):=λn a t hr=>by
    rcases gU hr with z|⟨_,z⟩
    · rw[mR]at z
      split at z
      · split at z<;>cases z
      · rcases hP n _ z with w|⟨_,w,_⟩<;>cases w
    · cases z
  refine⟨rs.set 2 (.go (2*many+1))++[.en],?_,⟨by simp,λn r hr m hm=>?_,λn a t hr=>absurd hr (np n a t)⟩,by simp;omega,np⟩
  · symm
    rw[M0 (by decide) (by decide) (by simp only[ln,List.length_set,List.length_cons,List.length_nil];exact dM (show rs.length+(0+1)≤200 by omega) (by decide))];rw[show mJ .bo .un=.fr from rfl,M6];symm;rw[km];rfl
  · have hlen:((rs.set 2 (.go (2*many+1))++[Row.en]).length:Int)=2*many+2:=by simp;omega
    rw[hlen];rcases gU hr with z|⟨_,rfl⟩
    · rw[mR]at z
      split at z
      · split at z
        · cases z
          have:m=2*many+1:=by simpa[aN.bA]using hm
          omega
        · cases z
      · rename_i n2
        let hn:n<rs.length:=(a9.mp z).1;rcases hP n r z with w|⟨t,rfl,w,y⟩
        · have:m=(n:Int)+1:=by cases r<;>simp_all [Row.flat,aN.bA]
          omega
        · have:m=t:=by simpa[aN.bA]using hm
          rcases w with w|w<;>omega
    · simp[aN.bA]at hm
def Tg(many n:Int)(r:Row):Prop:=(∀t,r=.go t→0≤t∧t<many)∧∀a t,r=.pt a t→0≤t∧t<many∧t≠n+1
def UG(c n many:Int)(hnm:0≤n∧n<many)(hm:1≤many∧many≤100)(fs:Qjz)(hf:0<fs.length∧fs.length≤100)(ds:List De)(hd:0<ds.length):∃r:Row,tQ [.int c,.int n,.int many,.str∘fs,ao∘ds]=.fr\r.d∧Tg many n r:=by
 let⟨nm,_,hn⟩:=qQ (f:=D.str) (l:=fs) (k:=c/14%fs.length) (gO _ ∅) (gZ _ ∅);let⟨q,_,hq⟩:=qQ (f:=ao) (l:=ds) (k:=c/14/fs.length%ds.length) (gO _ ∅) (gZ _ ∅);let⟨Tn,G9⟩:=qL (c/14/fs.length) fs hf.1;let⟨Tp,kC⟩:=qL (c/14) fs hf.1;let⟨Tq,ho3⟩:=qL (c/14/(many-1)) fs hf.1;let np:∀{r:Row},Row.gC r=false→Row.pW r=false→Tg many n r:=λ{r} h1 h2=>⟨λt e=>(by subst e;cases h1),λa t e=>(by subst e;cases h2)⟩;unfold tQ fn Ie;simp only[cv,bD,bG];rw[av (e':=[.al\.int c,.al\.int n,.al\.int many,.al\.str∘fs,.al\ao∘ds,.fr\.int (c%14),none,none,none,none]) (by ac_rfl)];rw[av (e':=[.al\.int c,.al\.int n,.al\.int many,.al\.str∘fs,.al\ao∘ds,.fr\.int (c%14),.fr\.int (c/14),none,none,none]) (by ac_rfl)];by_cases q1:c%14<6
 ·refine⟨.rk nm q.1 q.2.1 q.2.2,?_,np rfl rfl⟩;rw[dJ (e':=[.al\.int c,.al\.int n,.al\.int many,.al\.str∘fs,.al\ao∘ds,.fr\.int (c%14),.fr\.int (c/14),.al\.str q.1,.al\kD q.2.1,.al\kD q.2.2]) (m:=.fr) (d:=Row.d (.rk nm q.1 q.2.1 q.2.2)) (by
   rw[bF (by infer_instance)];rw[av (e':=[.al\.int c,.al\.int n,.al\.int many,.al\.str∘fs,.al\ao∘ds,.fr\.int (c%14),.fr\.int (c/14),.al\.str q.1,.al\kD q.2.1,.al\kD q.2.2]) (by ac_rfl)];nofun;rw[hn];symm;simp! [qX,Bool.and_self,if_true];rfl)]
  rfl
 rw[fU (by infer_instance)];by_cases q2:c%14<8
 ·refine⟨.cp nm Tn,?_,np rfl rfl⟩;rw[dJ (e':=[.al\.int c,.al\.int n,.al\.int many,.al\.str∘fs,.al\ao∘ds,.fr\.int (c%14),.fr\.int (c/14),none,none,none]) (m:=.fr) (d:=Row.d (.cp nm Tn)) (by
   rw[bF (by infer_instance)]
   ac_rfl)]
  rfl
 rw[fU (by infer_instance)];by_cases q3:c%14<10
 ·refine⟨.sy Tp,?_,np rfl rfl⟩;rw[dJ (e':=[.al\.int c,.al\.int n,.al\.int many,.al\.str∘fs,.al\ao∘ds,.fr\.int (c%14),.fr\.int (c/14),none,none,none]) (m:=.fr) (d:=Row.d (.sy Tp)) (by
   rw[bF (by infer_instance)]
   ac_rfl)]
  rfl
 rw[fU (by infer_instance)];let Tr:(cP (jB (ae gF (jV 5) (jC (.int 12)))) (jB (ae i5 (jV 2) (jC (.int 1))))) [.al\.int c,.al\.int n,.al\.int many,.al\.str∘fs,.al\ao∘ds,.fr\.int (c%14),.fr\.int (c/14),none,none,none]=some (decide (c%14<12)&&decide (1<many)):=by
  symm;cases decide (c%14<12)<;>rfl
 cases q4:(decide (c%14<12)&&decide (1<many)) with
 |true =>
  let h1m:1<many:=by simp at q4;exact q4.2
  let m0:=gO (n+2+c/14%(many-1)) (show many≠0 by omega);let m1:=gZ (n+2+c/14%(many-1)) (show 0<many by omega);let m2:(n+2+c/14%(many-1))%many≠n+1:=by
   let x0:=gO (c/14) (show many-1≠0 by omega);let x1:=gZ (c/14) (show 0<many-1 by omega);generalize c/14%(many-1)=x at x0 x1;by_cases hy:n+2+x<many
   ·rw[Int.emod_eq_of_lt ∅ hy];omega
   ·rw[show n+2+x=n+2+x-many+1*many by omega,Int.add_mul_emod_self_right,Int.emod_eq_of_lt ∅ ∅];omega
  refine⟨.pt Tq ((n+2+c/14%(many-1))%many),?_,(λt e=>nomatch e),λa t e=>(by cases e;exact⟨m0,m1,m2⟩)⟩;rw[dJ (e':=[.al\.int c,.al\.int n,.al\.int many,.al\.str∘fs,.al\ao∘ds,.fr\.int (c%14),.fr\.int (c/14),none,none,none]) (m:=.fr) (d:=Row.d (.pt Tq ((n+2+c/14%(many-1))%many))) (by
   rw[bF (by rw[Tr,q4])]
   ac_rfl)]
  rfl
 |false =>
  rw[fU (by rw[Tr,q4])];by_cases q5:c%14=12
  ·let m0:=gO (c/14) (show many≠0 by omega);let m1:=gZ (c/14) (show 0<many by omega);refine⟨.go (c/14%many),?_,(λt e=>by cases e;exact⟨m0,m1⟩),(λa t e=>nomatch e)⟩;rw[dJ (e':=[.al\.int c,.al\.int n,.al\.int many,.al\.str∘fs,.al\ao∘ds,.fr\.int (c%14),.fr\.int (c/14),none,none,none]) (m:=.fr) (d:=Row.d (.go (c/14%many))) (by
    rw[bF (by infer_instance)]
    ac_rfl)]
   rfl
  ·refine⟨.en,?_,np rfl rfl⟩;rw[fU (by infer_instance)];rfl
abbrev Fv(k:Nat)(e:Ev):Nat:=match e[k]? with
 |some (some (_,.bl true))=>1
 |_=>0
def L7{ks:Qxj}{x N:Nat}(h1:ks.Nodup)(h2:∀y∈ks,y<N)(hx:x∉ks)(hN:x<N):(ks++[x]).Nodup∧∀y∈ks++[x],y<N:=by
 refine⟨?_,λy hy=>?_⟩
 ·rw[sv];refine⟨h1,by simp,λa ha b hb=>?_⟩;have:b=x:=by simpa using hb
  subst this;exactλz=>hx (z▸ha)
 ·rcases iD.mp hy with z|z
  ·exact h2 y z
  ·have:y=x:=by simpa using z
   omega
structure Gr (N:Nat)(ks:Qxj)(mo:Bool)(dH:Qxj)(eJ:Bool):Prop where
 nd:dH.Nodup
 lt:∀x∈dH,x<N
 sub:∀x∈ks,x∈dH
 le:ks.length≤dH.length
 more:eJ=true→mo=true∨ks.length<dH.length
def Gr.refl{N:Nat}{ks:Qxj}{mo:Bool}(h1:ks.Nodup)(h2:∀x∈ks,x<N):Gr N ks mo ks mo:=⟨h1,h2,λ_ h=>h,aW _,λh=>.inl h⟩
def Gr.trans{N:Nat}{ks Cq tG:Qxj}{mo tH tI:Bool}(a:Gr N ks mo Cq tH)(b:Gr N Cq tH tG tI):Gr N ks mo tG tI:=by
 let h1:=a.le;let h2:=b.le;refine⟨b.nd,b.lt,λx h=>b.sub x (a.sub x h),by omega,λh=>?_⟩;rcases b.more h with z|z
 ·rcases a.more z with w|w
  ·exact .inl w
  ·exact .inr ∅
 ·exact .inr ∅
def adg{N:Nat}(hN:N≤800)(A0:Qzq)(b:Bool){ks:Qxj}{mo:Bool}(h1:ks.Nodup)(h2:∀x∈ks,x<N){n m:Nat}(hn:n<N)(hm:m<N)(o6 o7:Qzq) :
  ∃dH eJ cw bU,xr [A0,.al\.bl b,.bo\.dk (bq ks),.fr\↥n,.fr\.bl mo,.fr\↥m,o6,o7]=some (.nx [A0,.al\.bl b,.bo\.dk (bq dH),.fr\↥n,.fr\.bl eJ,.fr\↥m,cw,bU])∧Gr N ks mo dH eJ:=by
 let Cr:=oT N ks h1 h2;let s1:ks.length<sizeLine:=eD (show ks.length≤800 by omega) (by decide);obtain⟨x,y,hx,hy,e⟩:∃x y:Nat,x<N∧y<N∧pM (gT 2 (bR (gN 6) (bR (gN 7) dX))) (ae au (bL (ag (aY (ag (jV 5) (ag (jV 3) ai))) (ag (aY (ag (jV 3) (ag (jV 5) ai))) ai))) (aL nU (ag (jV 1) ai))) [A0,.al\.bl b,.bo\.dk (bq ks),.fr\↥n,.fr\.bl mo,.fr\↥m,o6,o7]=some (.nx [A0,.al\.bl b,.bo\.dk (bq ks),.fr\↥n,.fr\.bl mo,.fr\↥m,.fr\↥x,.fr\↥y]):=by
  cases b with
  |true=>exact⟨n,m,hn,hm,rfl⟩
  |false=>exact⟨m,n,hm,hn,rfl⟩
 unfold xr;rw[av e];let hc:(cP (jB (f6 false (jV 6) (jV 2))) (jB (f6 true (jV 7) (jV 2)))) [A0,.al\.bl b,.bo\.dk (bq ks),.fr\↥n,.fr\.bl mo,.fr\↥m,.fr\↥x,.fr\↥y]=some (decide (x∈ks)&&!decide (y∈ks)):=by
  simp! [cP,jB,f6,jV,j9,keyOf,gz,gy,id_eq,oq,Er,bN,if_true,Bool.false_eq_true,if_false];cases decide (x∈ks)<;>rfl
 cases hb:(decide (x∈ks)&&!decide (y∈ks)) with
 |false =>
  rw[bE (by rw[hc,hb])];exact⟨ks,mo,_,_,rfl,.refl h1 h2⟩
 |true =>
  let Ts:y∉ks:=by
   intro z;simp[z]at hb
  rw[bF (by rw[hc,hb])];let⟨n1,n2⟩:=L7 h1 h2 Ts hy;refine⟨ks++[y],true,.fr\↥x,.fr\↥y,?_,n1,n2,(λz hz=>jA _ hz),by simp,λ_=>.inr (by simp)⟩;simp! [aq,lA,ax,jV,jC,keyOf,gz,gy,id_eq,oq,iq,if_true,mN,own,yU,s1,NF Ts,tz,tq,mr]
def adh{rs:List Row}(g:Good rs)(hN:rs.length≤800)(b:Bool){ks:Qxj}{mo:Bool}(h1:ks.Nodup)(h2:∀x∈ks,x<rs.length){n:Nat}(hn:n<rs.length)(o5 o6 o7:Qzq) :
  ∃dH eJ dm cw bU,xt [.al\Row.d∘rs,.al\.bl b,.bo\.dk (bq ks),.fr\↥n,.fr\.bl mo,o5,o6,o7]=some (.nx [.al\Row.d∘rs,.al\.bl b,.bo\.dk (bq dH),.fr\↥n,.fr\.bl eJ,dm,cw,bU])∧Gr rs.length ks mo dH eJ:=by
 let hr:rs[n]?=some (rs[n]'hn):=by simp
 let ef:=DG rs n _ hr;let er:bA n (rs[n]'hn)=cF rs n:=by unfold cF;rw[hr]
 rw[er,yT g]at ef;let hm:∀m∈dR rs n,m<rs.length:=λm h=>by let⟨_,_,_,z⟩:=qM g h;exact z
 generalize dR rs n=ms at ef hm;let⟨e',l1,dH,eJ,dm,cw,bU,he,hg⟩:=du (g:=gN 5) (b:=xr) (m:=.fr) (ds:=ak ms) (e:=[.al\Row.d∘rs,.al\.bl b,.bo\.dk (bq ks),.fr\↥n,.fr\.bl mo,o5,o6,o7])
  (λ_ e=>∃(dH:Qxj) (eJ:Bool) (o5 o6 o7:Qzq),e=[.al\Row.d∘rs,.al\.bl b,.bo\.dk (bq dH),.fr\↥n,.fr\.bl eJ,o5,o6,o7]∧Gr rs.length ks mo dH eJ)
  ⟨ks,mo,o5,o6,o7,rfl,.refl h1 h2⟩
  (λi d e hd bu=>by
   let⟨Cq,tH,o5,o6,o7,he,hg⟩:=bu;subst he;obtain⟨m,jL,rfl⟩:∃m∈ms,d=↥m:=by
    let⟨x,hx,rfl⟩:=bP.mp (dO hd);exact⟨x,hx,rfl⟩
   let⟨tG,tI,cw,bU,q,HD⟩:=adg hN (.al\Row.d∘rs) b (mo:=tH) hg.nd hg.lt hn (hm m jL) o6 o7;exact⟨_,_,rfl,q,tG,tI,_,cw,bU,rfl,hg.trans HD⟩)
 subst he;refine⟨dH,eJ,dm,cw,bU,?_,hg⟩;unfold xt;simp! [aU,bK,aC,ag,ai,jV,gz,gy,id_eq,oq,mq,mn,ef,cf,oy];exact l1
def adi{rs:List Row}(g:Good rs)(hN:rs.length≤800)(b:Bool){ks:Qxj}(h1:ks.Nodup)(h2:∀x∈ks,x<rs.length)(o3 o4 o5 o6 o7:Qzq) :
  ∃dH eJ fV dm cw bU,xu [.al\Row.d∘rs,.al\.bl b,.bo\.dk (bq ks),o3,o4,o5,o6,o7]=some (.nx [.al\Row.d∘rs,.al\.bl b,.bo\.dk (bq dH),fV,.fr\.bl eJ,dm,cw,bU])∧Gr rs.length ks false dH eJ:=by
 let⟨e',l1,dH,eJ,fV,dm,cw,bU,he,hg⟩:=du (g:=gN 3) (b:=xt) (m:=.fr) (ds:=cu 0 rs.length) (e:=[.al\Row.d∘rs,.al\.bl b,.bo\.dk (bq ks),o3,.fr\.bl false,o5,o6,o7])
  (λ_ e=>∃(dH:Qxj) (eJ:Bool) (o3 o5 o6 o7:Qzq),e=[.al\Row.d∘rs,.al\.bl b,.bo\.dk (bq dH),o3,.fr\.bl eJ,o5,o6,o7]∧Gr rs.length ks false dH eJ)
  ⟨ks,false,o3,o5,o6,o7,rfl,.refl h1 h2⟩
  (λi d e hd bu=>by
   let⟨Cq,tH,o3,o5,o6,o7,he,hg⟩:=bu;subst he;let⟨hi,rfl⟩:=mB hd;rw[show(0:Int)+(i:Int)=(i:Int) by omega];let⟨tG,tI,dm,cw,bU,q,HD⟩:=adh g hN b (mo:=tH) hg.nd hg.lt hi o5 o6 o7;exact⟨_,_,rfl,q,tG,tI,_,dm,cw,bU,rfl,hg.trans HD⟩)
 subst he;refine⟨dH,eJ,fV,dm,cw,bU,?_,hg⟩;let cQ:-4611686018427387904≤(rs.length:Int)∧(rs.length:Int)<4611686018427387904:=by omega
 let ht:(rs.length:Int).toNat=rs.length:=by omega
 unfold xu;rw[av (e':=[.al\Row.d∘rs,.al\.bl b,.bo\.dk (bq ks),o3,.fr\.bl false,o5,o6,o7]) rfl];simp! [aU,cq,aL,ag,ai,jV,gz,gy,id_eq,oq,dE,ln,cQ,and_self,if_true,ht];exact l1
def OS{rs:List Row}(g:Good rs)(hN:rs.length≤800)(b:Bool):∃ks,tN [Row.d∘rs,.bl b]=.un\.dk (bq ks)∧ks.Nodup∧(∀x∈ks,x<rs.length)∧(b=true→0∈ks):=by
 let cQ:-4611686018427387904≤(rs.length:Int)∧(rs.length:Int)<4611686018427387904:=by omega
 let ht:(rs.length:Int).toNat=rs.length:=by omega
 let hp:=g.pos;unfold tN fn H0;simp only[cv,bD,bG];rw[av (e':=[.al\Row.d∘rs,.al\.bl b,.bo\.dk (bq [0]),none,none,none,none,none]) rfl];let S:∃ks o3,(aM (eO (jB (jV 1))) (aq (ax 2 uT) (aU (cq (ag (aL bJ (ag (jV 0) ai)) ai)) (gN 3) tM)) aR) [.al\Row.d∘rs,.al\.bl b,.bo\.dk (bq [0]),none,none,none,none,none]=some (.nx [.al\Row.d∘rs,.al\.bl b,.bo\.dk (bq ks),o3,none,none,none,none])∧ks.Nodup∧(∀x∈ks,x<rs.length)∧(b=true→0∈ks):=by
  cases b with
  |true =>
   exact⟨[0],none,rfl,by simp,λx h=>by simp at h;omega,λ_=>by simp⟩
  |false =>
   let⟨e',l1,ks,o3,he,h1,h2⟩:=du (g:=gN 3) (b:=tM) (m:=.fr) (ds:=cu 0 rs.length) (e:=[.al\Row.d∘rs,.al\.bl false,.bo\.dk (bq []),none,none,none,none,none])
    (λi e=>∃(ks:Qxj) (o3:Qzq),e=[.al\Row.d∘rs,.al\.bl false,.bo\.dk (bq ks),o3,none,none,none,none]∧ks.Nodup∧∀x∈ks,x<i)
    ⟨[],none,rfl,sr,λx h=>nomatch h⟩
    (λi d e hd bu=>by
     let⟨ks,o3,he,h1,h2⟩:=bu;subst he;let⟨hi,rfl⟩:=mB hd;rw[show(0:Int)+(i:Int)=(i:Int) by omega];let Cr:=oT i ks h1 h2;let s1:ks.length<sizeLine:=eD (show ks.length≤800 by omega) (by decide);let hr:rs[i]?=some (rs[i]'hi):=by simp
     generalize rs[i]'hi=r at hr;let ar:=jS hr;let hc:(jB (ae aP (ae au (ae au (jV 0) (jV 3)) (jC (.int 0))) (jC (.str "end")))) [.al\Row.d∘rs,.al\.bl false,.bo\.dk (bq ks),.fr\↥i,none,none,none,none]=some (Row.iB r):=by
      simp! [jB,ae,jV,jC,gz,gy,id_eq,oq,cZ,ar,oy,gS,iu,bN,zV]
     let wG:i∉ks:=λz=>by have:=h2 i z;omega
     cases hb:Row.iB r with
     |false =>
      refine⟨_,[.al\Row.d∘rs,.al\.bl false,.bo\.dk (bq ks),.fr\↥i,none,none,none,none],rfl,?_,ks,_,rfl,h1,λx hx=>by have:=h2 x hx;omega⟩;unfold tM;exact(bE (hc.trans (by rw[hb]))).trans rfl
     |true =>
      let⟨n1,n2⟩:=L7 (N:=i+1) h1 (λx hx=>by have:=h2 x hx;omega) wG ∅;refine⟨_,[.al\Row.d∘rs,.al\.bl false,.bo\.dk (bq (ks++[i])),.fr\↥i,none,none,none,none],rfl,?_,ks++[i],_,rfl,n1,n2⟩;unfold tM;refine(bF (by exact hc.trans (by rw[hb]))).trans ?_;simp! [lA,jV,jC,keyOf,gz,gy,id_eq,oq,iq,if_true,mN,own,yU,s1,NF wG,tz,tq])
   subst he;rw[k6]at h2;refine⟨ks,o3,?_,h1,h2,λz=>nomatch z⟩;rw[bF rfl,av (e':=[.al\Row.d∘rs,.al\.bl false,.bo\.dk (bq []),none,none,none,none,none]) rfl];simp! [aU,cq,aL,ag,ai,jV,gz,gy,id_eq,oq,dE,ln,cQ,and_self,if_true,ht];exact l1
 let⟨HF,HG,e0,a1,a2,a3⟩:=S;rw[av e0];rw[av (e':=[.al\Row.d∘rs,.al\.bl b,.bo\.dk (bq HF),HG,.fr\.bl true,none,none,none]) rfl];let⟨e',l1,⟨ks,mo,o3,o5,o6,o7,he,h1,h2,h3⟩,_⟩:=JD (c:=CB) (b:=xu) (e:=[.al\Row.d∘rs,.al\.bl b,.bo\.dk (bq HF),HG,.fr\.bl true,none,none,none])
  (λe=>∃(ks:Qxj) (mo:Bool) (o3 o5 o6 o7:Qzq),e=[.al\Row.d∘rs,.al\.bl b,.bo\.dk (bq ks),o3,.fr\.bl mo,o5,o6,o7]∧ks.Nodup∧(∀x∈ks,x<rs.length)∧(b=true→0∈ks))
  (λe=>rs.length-Ht 2 e+Fv 4 e)
  ⟨HF,true,HG,none,none,none,rfl,a1,a2,a3⟩
  (λe bu=>by
   let⟨ks,mo,o3,o5,o6,o7,he,h1,h2,h3⟩:=bu;subst he;let hC:CB [.al\Row.d∘rs,.al\.bl b,.bo\.dk (bq ks),o3,.fr\.bl mo,o5,o6,o7]=some mo:=rfl;cases mo with
   |false=>exact .inl hC
   |true =>
    let⟨dH,eJ,fV,dm,cw,bU,q,hg⟩:=adi g hN b h1 h2 o3 (.fr\.bl true) o5 o6 o7;refine .inr ⟨hC,_,q,⟨dH,eJ,fV,dm,cw,bU,rfl,hg.nd,hg.lt,λz=>hg.sub 0 (h3 z)⟩,?_⟩;let b1:=oT _ _ h1 h2;let b2:=oT _ _ hg.nd hg.lt;let b3:=hg.le;cases eJ with
    |false=>simp only[Ht,Fv,gz,gy,yU];omega
    |true =>
     have:=hg.more rfl;simp only[Ht,Fv,gz,gy,yU];rcases this with z|z
     ·cases z
     ·omega)
 subst he;rw[av l1];exact⟨ks,rfl,h1,h2,h3⟩
theorem L8{g:M×D→Ev→Option Ev}{b:Qqq}{m:M}(Iv:Ev→Prop)(Rt:M→D→Prop):∀{ds:Qzz}{e:Ev},Iv e →
  (∀d∈ds,∀e,Iv e→∃e1,g (m,d) e=some e1∧((∃e2,b e1=some (.nx e2)∧Iv e2)∨∃e2 m' d',b e1=some (.rt e2 m' d')∧Rt m' d')) →
  (∃e',forL g b m ds e=some (.nx e')∧Iv e')∨∃e' m' d',forL g b m ds e=some (.rt e' m' d')∧Rt m' d'
 |[],e,h0,_=>.inl ⟨e,rfl,h0⟩
 |d::ds,e,h0,hs=>by
  obtain⟨e1,h1,⟨e2,h2,h3⟩|⟨e2,m',d',h2,h3⟩⟩:=hs d cg e h0
  ·simp only[forL,h1,h2,oq];exact L8 Iv Rt h3 λx hx=>hs x (c9 _ hx)
  ·exact .inr ⟨e2,m',d',by simp only[forL,h1,h2,oq],h3⟩
abbrev ik(N:Nat)(ks:Qxj):Qxj:=(List.range N).filter λn=>!decide (n∈ks)
def Kz{mo:M}{N:Nat}{ks:Qxj}:dY (jB (f6 true (jV 0) (jV 1))) (jV 0) .fr [some (mo,.dk (bq ks))] (cu 0 N)=some ((ak (ik N ks)).map λx=>(M.fr,x)):=by
 rw[uI];refine tU _ λk _=>⟨?_,rfl⟩;simp! [jB,f6,jV,j9,keyOf,gz,gy,id_eq,oq,Er,bN,if_true]
def L9(N:Nat)(ks:Qxj):(ik N ks).length≤N:=by
 have:=vS (λn=>!decide (n∈ks)) (List.range N);rw[vP]at this;exact this
def Ma{N:Nat}{ks:Qxj}{n:Nat}(h:n∈ik N ks):n<N∧n∉ks:=by
 let⟨h1,h2⟩:=mP.mp h;exact⟨iC.mp h1,by simpa using h2⟩
def abd{l:Qxj}(h:l≠[]):∃x∈l,L2.bp (ak l) (-1)=some (↥x):=by
 let hp:0<l.length:=List.length_pos_iff.mpr h;refine⟨l[l.length-1]'∅,su _,?_⟩;unfold L2.bp L2.dh;rw[if_neg (by decide),dW,if_pos ∅,oq,show(-1+(l.length:Int)).toNat=l.length-1 by omega,ak,cA,dC ∅];rfl
def NK(t:Int):ly [(M.fr,D.str "say"),(.fr,.int t)]=some (.fr,Row.d (.sy (.inl t))):=rfl
def abe{rs:List Row}(g:Good rs)(hN:rs.length≤200)(t:Int)(o3 o4 o5 o6:Qzq) :
  (∃bM fV ig dm cw,tO [.bi\Row.d∘rs,.fr\.int ((rs.length:Int)-1),.fr\.int t,o3,o4,o5,o6]=some (.nx [.bi\Row.d∘bM,.fr\.int ((rs.length:Int)-1),.fr\.int t,fV,ig,dm,cw])∧Good bM∧bM.length=rs.length) ∨
  ∃e',tO [.bi\Row.d∘rs,.fr\.int ((rs.length:Int)-1),.fr\.int t,o3,o4,o5,o6]=some (.rt e' .bi (Row.d∘rs)):=by
 let cQ:-4611686018427387904≤(rs.length:Int)∧(rs.length:Int)<4611686018427387904:=by omega
 let ht:(rs.length:Int).toNat=rs.length:=by omega
 let hp:=g.pos;let⟨k1,e1,n1,b1,z1⟩:=OS g ∅ true;let⟨k2,e2,n2,b2,_⟩:=OS g ∅ false;let ml1:=L9 rs.length k1;let ml2:=L9 rs.length k2;unfold tO;rw[av (e':=[.bi\Row.d∘rs,.fr\.int ((rs.length:Int)-1),.fr\.int t,.bo\.dk (bq k1),o4,o5,o6]) (by
  simp! [ax,aC,ag,ai,jV,jC,gz,gy,id_eq,oq,mq,mn,e1,mv,tz,tq])]
 rw[av (e':=[.bi\Row.d∘rs,.fr\.int ((rs.length:Int)-1),.fr\.int t,.bo\.dk (bq k1),.bo\.dk (bq k2),o5,o6]) (by
  simp! [ax,aC,ag,ai,jV,jC,gz,gy,id_eq,oq,mq,mn,e2,mv,tz,tq])]
 rw[av (e':=[.bi\Row.d∘rs,.fr\.int ((rs.length:Int)-1),.fr\.int t,.bo\.dk (bq k1),.bo\.dk (bq k2),.bo\.lst (ak (ik rs.length k1)),o6]) (by
  simp! [ax,cW,cq,aL,ag,ai,jV,gz,gy,id_eq,oq,dE,ln,cQ,and_self,if_true,ht];rw[show gG [.bi\Row.d∘rs,.fr\.int ((rs.length:Int)-1),.fr\.int t,.bo\.dk (bq k1),.bo\.dk (bq k2),o5,o6] [3]=[.bo\.dk (bq k1)] from rfl,Kz,oq,jO (by rw[dW];omega),oq];rfl)]
 rw[av (e':=[.bi\Row.d∘rs,.fr\.int ((rs.length:Int)-1),.fr\.int t,.bo\.dk (bq k1),.bo\.dk (bq k2),.bo\.lst (ak (ik rs.length k1)),.bo\.lst (ak (ik rs.length k2))]) (by
  simp! [ax,cW,cq,aL,ag,ai,jV,gz,gy,id_eq,oq,dE,ln,cQ,and_self,if_true,ht];rw[show gG [.bi\Row.d∘rs,.fr\.int ((rs.length:Int)-1),.fr\.int t,.bo\.dk (bq k1),.bo\.dk (bq k2),.bo\.lst (ak (ik rs.length k1)),o6] [4]=[.bo\.dk (bq k2)] from rfl,Kz,oq,jO (by rw[dW];omega),oq];rfl)]
 let c5:(jB (ae iA (jV 5) (bL ai))) [.bi\Row.d∘rs,.fr\.int ((rs.length:Int)-1),.fr\.int t,.bo\.dk (bq k1),.bo\.dk (bq k2),.bo\.lst (ak (ik rs.length k1)),.bo\.lst (ak (ik rs.length k2))]=some (!(ik rs.length k1).isEmpty):=by
  simp! [jB,ae,jV,bL,ai,gz,gy,id_eq,oq];rw[show iR []=some (.un,.lst [])from rfl,oq,L4];rfl
 let c6:(jB (ae iA (jV 6) (bL ai))) [.bi\Row.d∘rs,.fr\.int ((rs.length:Int)-1),.fr\.int t,.bo\.dk (bq k1),.bo\.dk (bq k2),.bo\.lst (ak (ik rs.length k1)),.bo\.lst (ak (ik rs.length k2))]=some (!(ik rs.length k2).isEmpty):=by
  simp! [jB,ae,jV,bL,ai,gz,gy,id_eq,oq];rw[show iR []=some (.un,.lst [])from rfl,oq,L4];rfl
 cases wY:ik rs.length k1 with
 |cons l0 lr =>
  rw[wY]at c5 c6;let⟨q1,q2⟩:=Ma (N:=rs.length) (ks:=k1) (n:=l0) (by rw[wY];exact cg);let h0:l0≠0:=λz=>q2 (z▸z1 rfl);rw[bF (by rw[c5];rfl)];refine .inl ⟨rs.set (l0-1) (.sy (.inl t)),_,_,_,_,mj (j:=l0-1) (r:=.sy (.inl t)) (mo:=.bi) (m':=.fr) rfl rfl ?_ ?_ ∅,g.set (λm hm=>?_) (λb s e=>nomatch e),by simp⟩
  ·simp! [aY,ag,ai,jV,jC,gz,gy,id_eq,oq,NK]
  ·simp! [ae,jV,jC,gz,gy,id_eq,oq,cZ];rw[show ak (l0::lr)=↥l0::ak lr from rfl,Et];simp! [oy,oq,yJ];rw[show(l0:Int)-1=((l0-1:Nat):Int) by omega]
  ·have:m=((l0-1:Nat):Int)+1:=by simpa[aN.bA]using hm
   omega
 |nil =>
  rw[wY]at c5 c6;rw[bE (by rw[c5];rfl)];cases wZ:ik rs.length k2 with
  |nil =>
   rw[wZ]at c6
   right
   rw[bE (by unfold cP;rw[c6];rfl),bE (by rw[c6];rfl)];exact⟨_,rfl⟩
  |cons d0 dr =>
   rw[wZ]at c6
   left
   let⟨x,hx,ex⟩:=abd (l:=d0::dr) (List.cons_ne_nil _ _);let⟨q1,_⟩:=Ma (N:=rs.length) (ks:=k2) (n:=x) (by rw[wZ];exact hx);let ix:(ae au (jV 6) (cj fq (jC (.int 1)))) [.bi\Row.d∘rs,.fr\.int ((rs.length:Int)-1),.fr\.int t,.bo\.dk (bq k1),.bo\.dk (bq k2),.bo\.lst (ak []),.bo\.lst (ak (d0::dr))]=some (.fr,↥x):=by
    simp! [ae,cj,jV,jC,gz,gy,id_eq,oq,lz,cZ,ex,oy,pf]
   let c7:(cP (jB (ae iA (jV 6) (bL ai))) (jB (ae aP (ae au (jV 6) (cj fq (jC (.int 1)))) (jV 1)))) [.bi\Row.d∘rs,.fr\.int ((rs.length:Int)-1),.fr\.int t,.bo\.dk (bq k1),.bo\.dk (bq k2),.bo\.lst (ak []),.bo\.lst (ak (d0::dr))]=some (decide ((x:Int)=(rs.length:Int)-1)):=by
    unfold cP;rw[c6,show(some (!(d0::dr).isEmpty):Option Bool)=some true from rfl,oq,if_pos rfl];unfold jB ae;rw[show(((jV 6) [.bi\Row.d∘rs,.fr\.int ((rs.length:Int)-1),.fr\.int t,.bo\.dk (bq k1),.bo\.dk (bq k2),.bo\.lst (ak []),.bo\.lst (ak (d0::dr))]).bind λx_1=>((cj fq (jC (.int 1))) [.bi\Row.d∘rs,.fr\.int ((rs.length:Int)-1),.fr\.int t,.bo\.dk (bq k1),.bo\.dk (bq k2),.bo\.lst (ak []),.bo\.lst (ak (d0::dr))]).bind λy=>au x_1 y)=some (.fr,↥x)from ix];simp! [jV,gz,gy,id_eq,oq,iT,bN]
   by_cases q2:(x:Int)=(rs.length:Int)-1
   ·rw[bF (by rw[c7,dP q2])];refine⟨rs.set (rs.length-1) .en,_,_,_,_,mj (j:=rs.length-1) (r:=.en) (mo:=.bi) (m':=.fr) rfl rfl rfl ?_ ∅,g.set (λm hm=>by simp[aN.bA]at hm) (λb s e=>nomatch e),by simp⟩;simp! [jV,gz,gy,id_eq,oq];rw[show(rs.length:Int)-1=((rs.length-1:Nat):Int) by omega]
   ·rw[bE (by rw[c7,eQ q2]),bF (by rw[c6];rfl)];refine⟨rs.set x (.sy (.inl t)),_,_,_,_,mj (j:=x) (r:=.sy (.inl t)) (mo:=.bi) (m':=.fr) rfl rfl ?_ ix ∅,g.set (λm hm=>?_) (λb s e=>nomatch e),by simp⟩
    ·simp! [aY,ag,ai,jV,jC,gz,gy,id_eq,oq,NK]
    ·have:m=(x:Int)+1:=by simpa[aN.bA]using hm
     omega
def Yz{rs:List Row}(hp:0<rs.length)(hN:rs.length≤200)(hT:∀(n:Nat) r,rs[n]?=some r→Tg rs.length n r):∃bM:List Row,tT [Row.d∘rs]=some (Row.d∘bM)∧Good bM∧bM.length=rs.length:=by
 let fin:∀{bM:List Row}{e:Ev},nM (.rt e .bi (Row.d∘bM))=some (Row.d∘bM):=λ{bM e}=>by
  simp only[nM,own,gk,oU,and_self,if_true]
 unfold tT lF Ip;rw[show(jj [0] [Row.d∘rs]++List.replicate (7 - [Row.d∘rs].length) none:Ev)=[.bi\Row.d∘rs,none,none,none,none,none,none] from rfl];rw[av (e':=[.bi\Row.d∘rs,.fr\.int ((rs.length:Int)-1),none,none,none,none,none]) (by ac_rfl)];let pC:rs[rs.length-1]?=some (rs[rs.length-1]'∅):=by simp
 generalize rs[rs.length-1]'∅=rz at pC;let az:=jS pC;rw[show((rs.length-1:Nat):Int)=(rs.length:Int)-1 by omega]at az;let S:∃r1:List Row,Good r1∧r1.length=rs.length∧aM (jB (ae jI (ae au (ae au (jV 0) (jV 1)) (jC (.int 0))) (jC (.str "go")))) (fD 0 (jV 1) (aY (ag (jC (.str "end")) ai))) aR [.bi\Row.d∘rs,.fr\.int ((rs.length:Int)-1),none,none,none,none,none]=some (.nx [.bi\Row.d∘r1,.fr\.int ((rs.length:Int)-1),none,none,none,none,none]):=by
  let hc:(jB (ae jI (ae au (ae au (jV 0) (jV 1)) (jC (.int 0))) (jC (.str "go")))) [.bi\Row.d∘rs,.fr\.int ((rs.length:Int)-1),none,none,none,none,none]=some (!Row.gC rz):=by
   simp! [jB,ae,jV,jC,gz,gy,id_eq,oq,cZ,az,oy,gS,Oo,bN,sg]
  let Tt:∀(n:Nat) r,rs[n]?=some r→n+1<rs.length→∀m∈bA n r,0≤m∧m<rs.length:=λn r hr hn m hm=>by
   let⟨t1,t2⟩:=hT n r hr;cases r with
   |en=>simp[aN.bA]at hm
   |go t =>
    have:m=t:=by simpa[aN.bA]using hm
    have:=t1 t rfl;omega
   |pt a t =>
    have:m=(n:Int)+1∨m=t:=by simpa[aN.bA]using hm
    have:=t2 a t rfl;omega
   |rk x s a b =>
    have:m=(n:Int)+1:=by simpa[aN.bA]using hm
    omega
   |cp x a =>
    have:m=(n:Int)+1:=by simpa[aN.bA]using hm
    omega
   |sy a =>
    have:m=(n:Int)+1:=by simpa[aN.bA]using hm
    omega
  cases hg:Row.gC rz with
  |true =>
   refine⟨rs,⟨hp,λn r hr m hm=>?_,λn a t hr=>((hT n _ hr).2 a t rfl).2.2⟩,rfl,by rw[bE (by rw[hc,hg];rfl)];rfl⟩;by_cases hn:n+1<rs.length
   ·exact Tt n r hr hn m hm
   ·let aX:n<rs.length:=(a9.mp hr).1;have:n=rs.length-1:=by omega
    subst this;rw[pC]at hr;cases hr;let⟨t,rfl⟩:=D6.mp hg;have:m=t:=by simpa[aN.bA]using hm
    have:=(hT _ _ pC).1 t rfl;omega
  |false =>
   refine⟨rs.set (rs.length-1) .en,⟨by simpa using hp,λn r hr m hm=>?_,λn a t hr=>(by
    rw[mR]at hr;split at hr
    ·split at hr<;>cases hr
    ·exact((hT n _ hr).2 a t rfl).2.2)⟩,by simp,by
    rw[bF (by rw[hc,hg];rfl)];refine mj (j:=rs.length-1) (r:=.en) (mo:=.bi) (m':=.fr) rfl rfl rfl ?_ ∅;simp! [jV,gz,gy,id_eq,oq];rw[show(rs.length:Int)-1=((rs.length-1:Nat):Int) by omega]⟩
   rw[gd];rw[mR]at hr;split at hr
   ·split at hr
    ·cases hr;simp[aN.bA]at hm
    ·cases hr
   ·rename_i gi;let aX:n<rs.length:=(a9.mp hr).1;exact Tt n r hr ∅ m hm
 let⟨r1,g1,l1,e1⟩:=S;rw[av e1];let cQ:-4611686018427387904≤2*(rs.length:Int)∧2*(rs.length:Int)<4611686018427387904:=by omega
 let L:=L8 (g:=gN 2) (b:=tO) (m:=.fr) (ds:=cu 0 (2*(rs.length:Int)).toNat) (e:=[.bi\Row.d∘r1,.fr\.int ((rs.length:Int)-1),none,none,none,none,none])
  (λe=>∃(r2:List Row) (o2 o3 o4 o5 o6:Qzq),e=[.bi\Row.d∘r2,.fr\.int ((rs.length:Int)-1),o2,o3,o4,o5,o6]∧Good r2∧r2.length=rs.length)
  (λm d=>m=.bi∧∃r2:List Row,d=Row.d∘r2∧Good r2∧r2.length=rs.length)
  ⟨r1,none,none,none,none,none,rfl,g1,l1⟩
  (λd hd e bu=>by
   let⟨r2,o2,o3,o4,o5,o6,he,g2,l2⟩:=bu;subst he;obtain⟨t,rfl⟩:∃t:Int,d=.int t:=by
    let⟨k,_,rfl⟩:=bP.mp hd;exact⟨_,rfl⟩
   refine⟨_,rfl,?_⟩;rcases abe g2 ∅ t o3 o4 o5 o6 with⟨r3,fV,ig,dm,cw,q,g3,l3⟩|⟨e',q⟩
   ·rw[l2]at q;exact .inl ⟨_,q,r3,_,fV,ig,dm,cw,rfl,g3,by omega⟩
   ·rw[l2]at q;exact .inr ⟨e',.bi,_,q,rfl,r2,rfl,g2,l2⟩)
 let it:(cq (ag (ae fZ (jC (.int 2)) (aL bJ (ag (jV 0) ai))) ai)) [.bi\Row.d∘r1,.fr\.int ((rs.length:Int)-1),none,none,none,none,none]=some (.fr,cu 0 (2*(rs.length:Int)).toNat):=by
  simp! [cq,aL,ae,jC,ag,ai,jV,gz,gy,id_eq,oq,dE,ln,l1];rw[Ej ∅];simp! [oq,cQ,and_self,if_true]
 rcases L with⟨e',q,r2,o2,o3,o4,o5,o6,rfl,g2,l2⟩|⟨e',m',d',q,rfl,r2,rfl,g2,l2⟩
 ·refine⟨r2,?_,g2,l2⟩;rw[av (e':=[.bi\Row.d∘r2,.fr\.int ((rs.length:Int)-1),o2,o3,o4,o5,o6]) (by unfold aU;rw[it,oq];exact q)];rw[show(aF (jV 0)) [.bi\Row.d∘r2,.fr\.int ((rs.length:Int)-1),o2,o3,o4,o5,o6]=some (.rt _ .bi (Row.d∘r2))from rfl,oq];exact fin
 ·refine⟨r2,?_,g2,l2⟩;rw[dJ (e':=e') (m:=.bi) (d:=Row.d∘r2) (by unfold aU;rw[it,oq];exact q),oq];exact fin
theorem Mb{P:Nat→Row→Prop}:∀{xs:Qzz}{i:Nat},(∀(k:Nat) x,xs[k]?=some x→∃r:Row,x=r.d∧P (i+k) r)→∃rs:List Row,xs=rs.map Row.d∧∀(k:Nat) r,rs[k]?=some r→P (i+k) r
 |[],_,_=>⟨[],rfl,λ_ _ h=>by simp at h⟩
 |x::xs,i,h=>by
  let⟨r,rfl,hr⟩:=h 0 _ rfl;let⟨rs,rfl,hs⟩:=Mb (i:=i+1) λk y hy=>by rw[show i+1+k=i+(k+1) by omega];exact h (k+1) y (by simpa using hy)
  refine⟨r::rs,rfl,λk y hy=>?_⟩;cases k with
  |zero=>simp at hy;subst hy;exact hr
  |succ k=>have:=hs k y (by simpa using hy);rw[show i+1+k=i+(k+1) by omega]at this;exact this
theorem J1{fe:Qqj}{m m':M}{fr:Ev}{P:Nat→D→Prop}:∀{ds:Qzz}{i:Nat},(∀(k:Nat) d,ds[k]?=some d→∃x,fe (some (m,d)::fr)=some (m',x)∧P (i+k) x)→∃xs:Qzz,dY fu fe m fr ds=some (xs.map λy=>(m',y))∧xs.length=ds.length∧∀(k:Nat) x,xs[k]?=some x→P (i+k) x
 |[],_,_=>⟨[],rfl,rfl,λ_ _ h=>by simp at h⟩
 |d::ds,i,h=>by
  let⟨x,ex,hx⟩:=h 0 d rfl;let⟨xs,e,l,hs⟩:=J1 (ds:=ds) (i:=i+1) λk y hy=>by rw[show i+1+k=i+(k+1) by omega];exact h (k+1) y (by simpa using hy)
  refine⟨x::xs,by rw[dY,show fu (some (m,d)::fr)=some true from rfl,oq,if_pos rfl,ex,oq,e,oq];rfl,by simp[l],λk y hy=>?_⟩;cases k with
  |zero=>simp at hy;subst hy;exact hx
  |succ k=>have:=hs k y (by simpa using hy);rw[show i+1+k=i+(k+1) by omega]at this;exact this
def abf{k:Nat}{R:Qzz}(h1:D.cO R=true):jJ [0] [k] [(0,k)] [(.bo,.lst R)]=true:=by
 simp[jJ,List.range_succ,own,gk,h1]
def abg(ns cs:Qxk)(hc:cs.length≤20):∃rs:List Row,xm [.int∘ns,.int∘cs]=.un\Row.d∘rs∧Good rs∧rs.length≤20:=by
 let⟨c0,h0⟩:=oX ns 0 ∅;let⟨fs,lY,Hu⟩:=C6 c0;let⟨ds,Hv,mX⟩:=C7 ns fs ∅;generalize wX:(if (cs.length:Int)>1 then (cs.length:Int)else 1)=many;let hm:1≤many∧many≤20∧(0<cs.length→many=cs.length):=by rw[←wX];split<;>omega
 let fin:∀rs:List Row,0<rs.length→rs.length≤20→(∀(n:Nat) r,rs[n]?=some r→Tg rs.length n r)→∃bM:List Row,(mC [5] [(0,5)] tT (ag (jV 5) ai) [.al\.int∘ns,.al\.int∘cs,.bo\.str∘fs,.bo\ao∘ds,.fr\.int many,.bo\Row.d∘rs]).bind out=.un\Row.d∘bM∧Good bM∧bM.length≤20:=λrs h1 h2 h3=>by
  let⟨bM,e,g,l⟩:=Yz h1 ∅ h3;refine⟨bM,?_,g,by omega⟩;simp! [mC,ag,ai,jV,gz,gy,id_eq,oq,abf (oU rs),if_true,mq,mn,e,uP]
 unfold xm fn HN;simp only[cv,bD,bG];rw[av (e':=[.al\.int∘ns,.al\.int∘cs,.bo\.str∘fs,none,none,none]) (by ac_rfl)];rw[av (e':=[.al\.int∘ns,.al\.int∘cs,.bo\.str∘fs,.bo\ao∘ds,none,none]) (by ac_rfl)];rw[av (e':=[.al\.int∘ns,.al\.int∘cs,.bo\.str∘fs,.bo\ao∘ds,.fr\.int many,none]) (by
  symm;simp! [vw,oq,mr,wX])]
 rw[av (e':=[.al\.int∘ns,.al\.int∘cs,.bo\.str∘fs,.bo\ao∘ds,.fr\.int many,.bo\.lst ([Row.en].map Row.d)]) rfl];by_cases q:0<cs.length
 ·let cQ:-4611686018427387904≤many∧many<4611686018427387904:=by omega
  let hme:=hm.2.2 q;let⟨xs,ex,xl,xp⟩:=J1 (i:=0) (fe:=aC tQ (ag (ae au (jV 4) (jV 0)) (ag (jV 0) (ag (jV 1) (ag (jV 2) (ag (jV 3) ai)))))) (m:=.fr) (m':=.fr) (fr:=[.fr\.int many,.bo\.str∘fs,.bo\ao∘ds,.al\.int∘cs]) (P:=λk x=>∃r:Row,x=r.d∧Tg many k r) (ds:=cu 0 many.toNat) (λk d hd=>by
   let⟨hk,rfl⟩:=mB hd;let⟨c,Gb⟩:=Kj (ns:=cs) (k:=0+(k:Int)) ∅ ∅;let⟨r,er,hr⟩:=UG c (0+(k:Int)) many ∅ ∅ fs ∅ ds ∅;refine⟨r.d,?_,r,rfl,by rw[Int.zero_add]at hr;rw[Nat.zero_add];exact hr⟩
   ac_rfl)
  let⟨rs,rfl,hT⟩:=Mb (i:=0) (P:=λk r=>Tg many k r) λk x hx=>by have:=xp k x hx;exact this
  rw[k6,ln]at xl;rw[av (e':=[.al\.int∘ns,.al\.int∘cs,.bo\.str∘fs,.bo\ao∘ds,.fr\.int many,.bo\Row.d∘rs]) (by
   rw[bF (by symm;rw[dP (show(0:Int)<cs.length by omega)])];simp! [ax,cW,cq,ag,ai,jV,gz,gy,id_eq,oq,cQ,and_self,if_true];rw[show gG [.al\.int∘ns,.al\.int∘cs,.bo\.str∘fs,.bo\ao∘ds,.fr\.int many,.bo\.lst ([Row.en].map Row.d)] [4,2,3,1]=[.fr\.int many,.bo\.str∘fs,.bo\ao∘ds,.al\.int∘cs] from rfl,ex,oq,jO (by rw[ln];omega),oq];rfl)]
  exact fin rs ∅ ∅ λn r hr=>by
   have:=hT n r hr;rw[Nat.zero_add]at this;rw[show(rs.length:Int)=many by omega];exact this
 ·rw[av (e':=[.al\.int∘ns,.al\.int∘cs,.bo\.str∘fs,.bo\ao∘ds,.fr\.int many,.bo\.lst ([Row.en].map Row.d)]) (by
   rw[bE (by symm;rw[eQ (show ¬(0:Int)<cs.length by omega)])];rfl)]
  exact fin [.en] (by simp) (by simp) λn r hr=>by
   have:r=.en:=by simpa using dO hr
   subst this;exact⟨(λt e=>nomatch e),λa t e=>nomatch e⟩
theorem NP(rs:List Row):∀k,k≤rs.length→(aJ rs k).length≤1+Wt (rs.take k)
 |0,_=>aW 1
 |k+1,h=>by
  let ih:=NP rs k ∅;let hk:rs[k]?=some (rs[k]'h):=by simp
  rw[oW,fw,ln,List.take_succ,hk,oi,my,show cF rs k=bA k (rs[k]'h) by unfold cF;rw[hk]];have:(bA k (rs[k]'h)).length≤wt (rs[k]'h):=by cases rs[k]'h<;>simp[aN.bA,wt]
  omega
theorem NQ(rs:List Row)(hn:∀(n:Nat) a t,rs[n]?≠some (.pt a t)):∀k,k≤rs.length→(aJ rs k).length≤1+k
 |0,_=>aW 1
 |k+1,h=>by
  let ih:=NQ rs hn k ∅;let hk:rs[k]?=some (rs[k]'h):=by simp
  rw[oW,fw,ln,show cF rs k=bA k (rs[k]'h) by unfold cF;rw[hk]];have:(bA k (rs[k]'h)).length≤1:=by
   cases e:rs[k]'h with
   |pt a t=>rw[e]at hk;exact absurd hk (hn k a t)
   |_=>simp[aN.bA]
  omega
def UH(ns cs:Qxk)(hc:cs.length≤20):∃rs:List Row,xN [.int∘ns,.int∘cs]=.un\Row.d∘rs∧Good rs∧rs.length≤100∧(aJ rs rs.length).length<64:=by
 let⟨b,hb⟩:=DF ns;let⟨nu,Te⟩:=C1 ns 57 ∅;unfold xN fn Ig;simp only[cv,bD,bG];cases b with
 |true =>
  let⟨rs,e,g,l⟩:=abg ns cs hc;refine⟨rs,?_,g,by omega,by have:=uJ rs rs.length;omega⟩;rw[dJ (e':=[.al\.int∘ns,.al\.int∘cs,none,none,none,none,none]) (m:=.un) (d:=Row.d∘rs) (by
   rw[bF (by infer_instance)]
   ac_rfl)]
  rfl
 |false =>
  rw[fU (by infer_instance)];rw[av (e':=[.al\.int∘ns,.al\.int∘cs,.fr\.int nu,none,none,none,none]) (by ac_rfl)];by_cases q:nu%8=1
  ·let⟨rs,e,g,l,np⟩:=Vp ns (1+nu/8%28) ∅ ∅;refine⟨rs,?_,g,by omega,by have:=NQ rs np rs.length (aW _);omega⟩;rw[dJ (e':=[.al\.int∘ns,.al\.int∘cs,.fr\.int nu,none,none,none,none]) (m:=.un) (d:=Row.d∘rs) (by
    rw[bF (by infer_instance)]
    ac_rfl)]
   rfl
  rw[fU (by infer_instance)];let⟨ro,er,lZ,HC,hrw⟩:=WC ns cs hc;let⟨n2,Gw⟩:=C1 ns 59 ∅;rw[av (e':=[.al\.int∘ns,.al\.int∘cs,.fr\.int nu,.bo\Row.d∘ro,none,none,none]) (by ac_rfl)];rw[av (e':=[.al\.int∘ns,.al\.int∘cs,.fr\.int nu,.bo\Row.d∘ro,.bo\.lst ([].map Row.d),none,none]) rfl];let⟨e',l1,rs,o5,o6,he,hl,hP,hw,hQ⟩:=du (g:=gT 2 (bR (gN 5) (bR (gN 6) dX))) (b:=xA) (m:=.fr) (ds:=bY (ro.map Row.d)) (e:=[.al\.int∘ns,.al\.int∘cs,.fr\.int nu,.fr\Row.d∘ro,.bo\.lst ([].map Row.d),none,none])
   (λi e=>∃(rs:List Row) (o5 o6:Qzq),e=[.al\.int∘ns,.al\.int∘cs,.fr\.int nu,.fr\Row.d∘ro,.bo\Row.d∘rs,o5,o6]∧rs.length=i∧(∀(n:Nat) r,rs[n]?=some r→∀m∈bA n r,0≤m∧m<ro.length)∧Wt rs=Wt (ro.take i)∧∀(n:Nat) a t,rs[n]?=some (.pt a t)→t≠(n:Int)+1)
   ⟨[],none,none,rfl,rfl,(λn r h=>by simp at h),rfl,λn a t h=>by simp at h⟩
   (λi d e hd bu=>by
    let⟨rs,o5,o6,he,hl,hP,hw,hQ⟩:=bu;subst he;let⟨r,hr,rfl⟩:=L1 hd;let hi:i<ro.length:=(a9.mp hr).1;let⟨r',cw,q,hm,hw',hnp⟩:=aa9 lZ ∅ (.al\.int∘ns) (.al\.int∘cs) (.fr\.int nu) rs ∅ hr;refine⟨_,_,rfl,q,rs++[r'],_,cw,rfl,by simp[hl],λn x hx m qD=>?_,by rw[my,hw,List.take_succ,hr,oi,my,hw'],λn a t hx=>(by
     rcases gU hx with z|⟨z,w⟩
     ·exact hQ n a t z
     ·rw[z,hl];exact hnp a t w.symm)⟩
    rcases gU hx with z|⟨z,rfl⟩
    ·exact hP n x z m qD
    ·rw[z,hl]at qD;exact hm m qD)
  subst he;let hE:(bY (ro.map Row.d)).length=ro.length:=by simp[bY]
  rw[hE]at hl hw;rw[qb]at hw;rw[av (e':=[.al\.int∘ns,.al\.int∘cs,.fr\.int nu,.fr\Row.d∘ro,.bo\Row.d∘rs,o5,o6]) (by
   rw[bT,show aZ 3 [.al\.int∘ns,.al\.int∘cs,.fr\.int nu,.bo\Row.d∘ro,.bo\.lst ([].map Row.d),none,none]=[.al\.int∘ns,.al\.int∘cs,.fr\.int nu,.fr\Row.d∘ro,.bo\.lst ([].map Row.d),none,none] from rfl];simp! [aU,gj,ag,jV,ai,gz,gy,oq,id_eq,cf,oy];exact l1)]
  let g:Good rs:=⟨by have:=lZ.pos;omega,(λn r hr m hm=>by rw[hl];exact hP n r hr m hm),hQ⟩;let⟨bM,e2,g2,l2,w2⟩:=Yy g ∅ n2;refine⟨bM,?_,g2,by omega,by have:=NP bM bM.length (aW _);rw[qb]at this;omega⟩;let io:jJ [0] [4] [(0,4)] [(.bo,Row.d∘rs),(.fr,.int n2)]=true:=by
   simp[jJ,List.range_succ,own,gk,ib,oU]
  simp! [mC,ag,ai,jV,jC,aC,gz,gy,id_eq,oq,mq,mn,Gw,io,if_true,e2,uP]
abbrev bH(p:Nat→Bool):Nat→Nat
 |0=>0
 |k+1=>bH p k+(if p k=true then 2^k else 0)
theorem yW(p:Nat→Bool):∀k,bH p k<2^k
 |0=>by simp[bH]
 |k+1=>by
  have:=yW p k;rw[bH,Nat.pow_succ];split<;>omega
theorem k7(p:Nat→Bool):∀k j,(bH p k).testBit j=(decide (j<k)&&p j)
 |0,j=>by simp[bH]
 |k+1,j=>by
  let h:=yW p k;let ih:=k7 p k j;rw[bH];by_cases hp:p k=true
  ·rw[if_pos hp,Nat.add_comm];rcases Nat.lt_trichotomy j k with hj|rfl|hj
   ·rw[Qw hj,ih];simp[hj,Nat.lt_succ_of_lt hj]
   ·rw[Qx,vT h];simp[hp]
   ·rw[vT (fM (show 2^k+bH p k<2^(k+1) by rw[Nat.pow_succ];omega) (F5 (by decide) hj))];have:¬j<k+1:=by omega
    simp[this]
  ·rw[if_neg hp,Nat.add_zero,ih];by_cases hj:j<k
   ·simp[hj,Nat.lt_succ_of_lt hj]
   ·by_cases e:j=k
    ·subst e;simp[hp]
    ·let h2:¬j<k+1:=by omega
     simp[hj,h2]
theorem uK{p q:Nat→Bool}:∀{k:Nat},(∀j,j<k→p j=q j)→bH p k=bH q k
 |0,_=>rfl
 |k+1,h=>by rw[bH,bH,uK λj hj=>h j ∅,h k ∅]
def YB{p q:Nat→Bool}{k:Nat}(h:bH p k=bH q k):∀j,j<k→p j=q j:=λj hj=>by
 have:=k7 p k j;rw[h,k7]at this;simpa[hj]using this.symm
def Md(p q:Nat→Bool)(k:Nat):bH p k&&&bH q k=bH (λj=>p j&&q j) k:=by
 apply F6;intro j;rw[Nat.testBit_and,k7,k7,k7];cases decide (j<k)<;>simp
def abh(p q:Nat→Bool)(k:Nat):bH p k|||bH q k=bH (λj=>p j||q j) k:=by
 apply F6;intro j;rw[Nat.testBit_or,k7,k7,k7];cases decide (j<k)<;>simp
theorem J2(p q:Nat→Bool):∀k,bH (λj=>p j&&q j) k+bH (λj=>p j&&!q j) k=bH p k
 |0=>rfl
 |k+1=>by
  have:=J2 p q k;simp only[bH];by_cases hp:p k=true<;>by_cases hq:q k=true<;>simp[hp,hq]<;>omega
theorem Mf{p:Nat→Bool}:∀{k i:Nat},i<k→(∀j,j<k→(p j=true↔j=i))→bH p k=2^i
 |0,i,h,_=>absurd h (kl i)
 |k+1,i,h,hp=>by
  rw[bH];by_cases e:i=k
  ·subst e;rw[if_pos ((hp i ∅).mpr rfl),show bH p i=bH (λ_=>false) i from uK λj hj=>by
    cases hh:p j with
    |false=>rfl
    |true=>have:=(hp j ∅).mp hh;omega]
   let z:∀n,bH (λ_=>false) n=0:=λn=>by
    induction n with
    |zero=>rfl
    |succ n ih=>rw[bH,ih];simp
   rw[z];simp
  ·rw[if_neg λz=>e ((hp k ∅).mp z).symm,Nat.add_zero];exact Mf ∅ λj hj=>hp j ∅
def WL{p:Nat→Bool}{k:Nat}(h:∀j,j<k→p j=false):bH p k=0:=by
 induction k with
 |zero=>rfl
 |succ k ih=>rw[bH,ih λj hj=>h j ∅,h k ∅];simp
def bI(p:Nat→Bool)(k:Nat):D:=.int ((bH p k:Nat):Int)
def Tv(x y:Nat):Builtin.bitOr (x:Int) (y:Int)=((x|||y:Nat):Int):=by
 unfold Builtin.bitOr;rw[PyProof.Rows.bitAnd_nn (by unfold Builtin.bitNot;omega) (by unfold Builtin.bitNot;omega)];let nn:∀z:Int,Builtin.bitNot (Builtin.bitNot z)=z:=λz=>by unfold Builtin.bitNot;omega
 rw[nn,nn,nn,qc,qc]
def Fw(x y:Nat):Builtin.bitAnd (x:Int) (y:Int)=((x&&&y:Nat):Int):=by
 rw[PyProof.Rows.bitAnd_pp (z7 x) (z7 y),qc,qc]
section
variable {m n:M}{p q:Nat→Bool}{k:Nat}
def OU:pN (m,bI p k) (n,bI q k)=some (.fr,bI (λj=>p j||q j) k):=by
 unfold bI;rw[M4,Tv,abh]
def abi:gX (m,bI p k) (n,bI q k)=some (.fr,bI (λj=>p j&&q j) k):=by
 unfold bI;rw[Du,Fw,Md]
def NR:((nV (n,bI q k)).bind λy=>gX (m,bI p k) y)=some (.fr,bI (λj=>p j&&!q j) k):=by
 have:=J2 p q k;unfold bI;rw[aca,oq,Du,PyProof.Rows.bitAnd_not,Fw,Md];let h:((bH p k:Nat):Int)-((bH (λj=>p j&&q j) k:Nat):Int)=((bH (λj=>p j&&!q j) k:Nat):Int):=by omega
 rw[h]
def abj:(bI p k).cB=true:=pP
def D7(h:∀j,j<k→p j=q j):bI p k=bI q k:=by unfold bI;rw[uK h]
end
def WM{bs:List Bool}{i:Nat}{d:D}(h:(bY (bs.map D.bl))[i]?=some d):∃b,bs[i]?=some b∧d=.tup [.int i,.bl b]:=by
 unfold bY at h;rw[sx,cA]at h;cases e:bs[i]? with
 |none=>rw[e]at h;cases h
 |some r=>rw[e]at h;cases h;exact⟨r,rfl,rfl⟩
def DK{m n:M}{i:Nat}(h:i≤1000):pI (m,.int 1) (n,↥i)=some (.fr,.int ((2^i:Nat):Int)):=by
 rw[aaq ⟨by omega,by omega,by decide⟩,qc,Int.one_mul];congr 3
def Mg(bs:List Bool)(hl:bs.length≤500):ui [.bl∘bs]=some (.fr,bI (λj=>bs.getD j false) bs.length):=by
 let⟨e',l1,o2,o3,he⟩:=du (g:=gT 2 (bR (gN 2) (bR (gN 3) dX))) (b:=xY) (m:=.al) (ds:=bY (bs.map D.bl)) (e:=[.al\.bl∘bs,.fr\.int 0,none,none])
  (λi e=>∃o2 o3,e=[.al\.bl∘bs,.fr\bI (λj=>bs.getD j false) i,o2,o3]) ⟨none,none,rfl⟩
  (λi d e hd bu=>by
   let⟨o2,o3,he⟩:=bu;subst he;let⟨b,hb,rfl⟩:=WM hd;let hi:i<bs.length:=(a9.mp hb).1;let hg:bs.getD i false=b:=by rw[ko,hb];rfl
   refine⟨_,[.al\.bl∘bs,.fr\bI (λj=>bs.getD j false) (i+1),.al\↥i,.al\.bl b],rfl,?_,_,_,rfl⟩;show xY [.al\.bl∘bs,.fr\bI (λj=>bs.getD j false) i,.al\↥i,.al\.bl b]=_;unfold xY;cases b with
   |false =>
    rw[bE rfl];unfold bI;rw[bH,hg,if_neg bx];rfl
   |true =>
    rw[bF rfl];simp! [ax,ae,jV,jC,gz,gy,id_eq,oq,DK (show i≤1000 by omega)];unfold bI;rw[M4,Tv,bH,hg,if_pos rfl];let ho:bH (λj=>bs.getD j false) i|||2^i=bH (λj=>bs.getD j false) i+2^i:=by
     apply F6;intro j;let h:=yW (λj=>bs.getD j false) i;rw[Nat.testBit_or,Nat.add_comm];rcases Nat.lt_trichotomy j i with hj|rfl|hj
     ·rw[Qw hj,Qy ∅,FY]
     ·rw[Qx,vT h,Nat.testBit_two_pow_self];rfl
     ·rw[vT (fM h (F5 (by decide) ∅)),Qy ∅,vT (fM (show 2^i+bH (λj=>bs.getD j false) i<2^(i+1) by rw[Nat.pow_succ];omega) (F5 (by decide) hj))];rfl
    rw[ho];rfl)
 subst he;let hE:(bY (bs.map D.bl)).length=bs.length:=by simp[bY]
 rw[hE]at l1;unfold ui fn JQ;simp only[cv,bD,bG];rw[av (e':=[.al\.bl∘bs,.fr\.int 0,none,none]) rfl];rw[av (e':=[.al\.bl∘bs,.fr\bI (λj=>bs.getD j false) bs.length,o2,o3]) (by
  rw[bT,show aZ 0 [.al\.bl∘bs,.fr\.int 0,none,none]=[.al\.bl∘bs,.fr\.int 0,none,none] from rfl];simp! [aU,gj,ag,jV,ai,gz,gy,oq,id_eq,cf,oy];exact l1)]
 rfl
section
variable {κ:Type}[DecidableEq κ]
def YC{ks:List (κ×D)}{k:κ}{d:D}(h:∀kv∈ks,kv.1=k→kv.2=d)(hi:∃kv∈ks,kv.1=k):putD ks k d=ks:=by
 unfold putD;rw[if_pos (by rw[qd];let⟨kv,h1,h2⟩:=hi;exact⟨kv,h1,dP h2⟩)]
 conv=>rhs;rw[←List.map_id ks]
 refine sC λkv fB=>?_;by_cases e:kv.1=k
 ·rw[if_pos e,←h kv fB e];rfl
 ·rw[if_neg e];rfl
def yn{ks:List (κ×D)}{k:κ}{d:D}(h:∀kv∈ks,kv.1≠k):putD ks k d=ks++[(k,d)]:=by
 unfold putD;rw[if_neg];intro z;let⟨kv,h1,h2⟩:=qd.mp z;exact h kv h1 (bt h2)
def yd{ks:List (κ×D)}{k:κ}{d:D}(h:∀kv∈ks,kv.1=k→kv.2=d)(hi:∃kv∈ks,kv.1=k):dz ks k=some d:=by
 unfold dz;cases f:ks.find? λkv=>decide (kv.1=k) with
 |none =>
  let⟨kv,h1,h2⟩:=hi;have:=List.find?_eq_none.mp f kv h1;exact absurd (dP h2) this
 |some kv =>
  let h1:=List.mem_of_find?_eq_some f;let h2:kv.1=k:=bt (List.find?_some (p:=λ(kv:κ×D)=>decide (kv.1=k)) f);rw[oy,h kv h1 h2]
def IL{ks:List (κ×D)}{k:κ}:(dz ks k).isSome=true↔∃kv∈ks,kv.1=k:=by
 unfold dz;rw[Ad,List.find?_isSome];constructor
 ·rintro⟨kv,h1,h2⟩;exact⟨kv,h1,bt h2⟩
 ·rintro⟨kv,h1,h2⟩;exact⟨kv,h1,dP h2⟩
def KC(ks:List (κ×D))(k:κ)(d:D):(putD ks k d).length≤ks.length+1:=by
 unfold putD;split
 ·rw[ln];omega
 ·simp
def KD{ks:List (κ×D)}{k:κ}{d:D}{kv:κ×D}(h:kv∈putD ks k d):(kv∈ks∧kv.1≠k)∨kv=(k,d):=by
 unfold putD at h;split at h
 ·let⟨x,hx,e⟩:=bP.mp h;by_cases z:x.1=k
  ·rw[if_pos z]at e;exact .inr (by rw[←e,z])
  ·rw[if_neg z]at e;exact .inl (by rw[←e];exact⟨hx,z⟩)
 ·rename_i hn;rcases iD.mp h with z|z
  ·by_cases e:kv.1=k
   ·exact absurd (qd.mpr ⟨kv,z,dP e⟩) hn
   ·exact .inl ⟨z,e⟩
  ·exact .inr (by simpa using z)
def putD_has{ks:List (κ×D)}{k:κ}{d:D}:∃kv∈putD ks k d,kv.1=k:=by
 unfold putD;split
 ·rename_i h;let⟨x,hx,e⟩:=qd.mp h;let e:=bt e;exact⟨_,bP.mpr ⟨x,hx,rfl⟩,by rw[if_pos e];exact e⟩
 ·exact⟨(k,d),by simp,rfl⟩
end
abbrev b9:Row→Option De
 |.rk _ s a b=>some (s,a,b)
 |_=>none
abbrev sets:Row→Option Str
 |.rk x _ _ _=>some x
 |.cp x _=>some x
 |_=>none
def dd:Option De→D
 |some q=>ao q
 |none=>.non
abbrev fA:Option Str→D
 |some q=>.str q
 |none=>.non
def Fx(r:Row):decide (r.word=("reckon" : Str))=(b9 r).isSome:=by
 cases r with
 |rk x s a b=>exact(by decide +kernel:decide (("reckon" : Str) = "reckon")=true)
 |cp x a=>exact(by decide +kernel:decide (("copy" : Str) = "reckon")=false)
 |sy a=>exact(by decide +kernel:decide (("say" : Str) = "reckon")=false)
 |go t=>exact(by decide +kernel:decide (("go" : Str) = "reckon")=false)
 |pt a t=>exact(by decide +kernel:decide (("part" : Str) = "reckon")=false)
 |en=>exact(by decide +kernel:decide (("end" : Str) = "reckon")=false)
def yC(r:Row):oM [r.d]=some (.fr,dd (b9 r)):=by
 unfold oM fn HX;symm;simp! [gS,oq,gw,iu,bN,Fx];cases r with
 |rk x s a b =>
  simp! [b9,Option.isSome_some,if_true];rw[show au (.al,Row.d (.rk x s a b)) (.fr,.int 2)=some (.al,.str s)from rfl,show au (.al,Row.d (.rk x s a b)) (.fr,.int 3)=some (.al,kD a)from rfl,show au (.al,Row.d (.rk x s a b)) (.fr,.int 4)=some (.al,kD b)from rfl];symm;simp! [qX,Bool.and_self,if_true];rfl
 |_=>rfl
def Yo(r:Row):yS [r.d]=some (.fr,fA (sets r)):=by
 cases r<;>rfl
abbrev w6:Ko→Key
 |.inl i=>.inl i
 |.inr x=>.inr x
def iM(q:De):List Key:=[.inr q.1,w6 q.2.1,w6 q.2.2]
def Mh{a b:Ko}(h:w6 a=w6 b):a=b:=by
 cases a<;>cases b<;>simp[w6]at h<;>rw[h]
def DL{p q:De}(h:iM p=iM q):p=q:=by
 let⟨s,a,b⟩:=p;let⟨s',a',b'⟩:=q;simp only[iM,List.cons.injEq,and_true,Key.inr.injEq]at h;rw[h.1,Mh h.2.1,Mh h.2.2]
def DM(q:De):mO (ao q)=some (iM q):=by
 let⟨s,a,b⟩:=q;cases a<;>cases b<;>rfl
def YD(q:De):Ff (iM q)=ao q:=by
 let⟨s,a,b⟩:=q;cases a<;>cases b<;>rfl
def il(l:List De):List (List Key×D):=l.map λq=>(iM q,.bl true)
noncomputable instance aer (q:De) (l:List De):Decidable (q∈l):=@List.instDecidableMemOfLawfulBEq De instBEqOfDecidableEq inferInstance q l
def kR(acc:List De)(r:Row):List De:=match b9 r with
 |some q=>if q∈acc then acc else acc++[q]
 |none=>acc
def kn(rs:List Row):List De:=rs.foldl kR []
def YF(acc:List De)(r:Row):(kR acc r).length≤acc.length+1:=by
 unfold kR;split
 ·split<;>simp
 ·omega
def qR(rs:List Row)(i:Nat)(r:Row)(h:rs[i]?=some r):kn (rs.take (i+1))=kR (kn (rs.take i)) r:=by
 unfold kn;rw[jF,h,List.foldl_append];rfl
theorem yX(rs:List Row):∀i,(kn (rs.take i)).length≤i
 |0=>by simp[kn]
 |i+1=>by
  have:=yX rs i;cases h:rs[i]? with
  |none =>
   let e:rs.take (i+1)=rs.take i:=by rw[jF,h];simp
   rw[e];omega
  |some r =>
   rw[qR rs i r h];have:=YF (kn (rs.take i)) r;omega
set_option tactic.hygienic true in
theorem KG(rs:List Row):∀i,(kn (rs.take i)).Nodup
 |0=>by simp[kn]
 |i+1=>by
  let ih:=KG rs i;cases h:rs[i]? with
  |none =>
   let e:rs.take (i+1)=rs.take i:=by rw[jF,h];simp
   rw[e];exact ih
  |some r =>
   rw[qR rs i r h];unfold kR;split
   ·rename_i q _;split
    ·exact ih
    ·rename_i hn;rw[sv];exact⟨ih,by simp,λa ha b hb=>λz=>hn ((show b=q by simpa using hb)▸z▸ha)⟩
   ·exact ih
theorem NS(rs:List Row){q:De}:∀(i:Nat),(∃(n:Nat) (r:Row),n<i∧rs[n]?=some r∧b9 r=some q)→q∈kn (rs.take i)
 |0,⟨n,_,h,_⟩=>absurd h (kl n)
 |i+1,⟨n,r,hn,hr,hd⟩=>by
  let up:∀x,x∈kn (rs.take i)→x∈kn (rs.take (i+1)):=λx hx=>by
   cases h:rs[i]? with
   |none =>
    let e:rs.take (i+1)=rs.take i:=by rw[jF,h];simp
    rw[e];exact hx
   |some r =>
    rw[qR rs i r h];unfold kR;split
    ·split
     ·exact hx
     ·exact jA _ hx
    ·exact hx
  by_cases e:n=i
  ·subst e;rw[qR rs n r hr];unfold kR;rw[hd];simp only;split
   ·assumption
   ·simp
  ·exact up q (NS rs i ⟨n,r,by omega,hr,hd⟩)
def w9{rs:List Row}:kn (rs.take rs.length)=kn rs:=by rw[qb]
def adj{r:Row}{l:List De}(hl:l.length≤500)(A0 o3:Qzq):∃fV,xB [A0,.bo\.dt (il l),.al\r.d,o3]=some (.nx [A0,.bo\.dt (il (kR l r)),.al\r.d,fV]):=by
 let s1:(il l).length<sizeLine:=by simp only[il,ln];exact eD hl (by decide)
 unfold xB;rw[av (e':=[A0,.bo\.dt (il l),.al\r.d,.fr\dd (b9 r)]) (by
  simp! [ax,aC,ag,ai,jV,gz,gy,id_eq,oq,mq,mn,yC,mr,tz,tq])]
 unfold kR;cases hd:b9 r with
 |none =>
  rw[bE rfl];exact⟨_,rfl⟩
 |some q =>
  rw[bF rfl];refine⟨some (.fr,ao q),?_⟩;let hp:putD (il l) (iM q) (.bl true)=il (if q∈l then l else l++[q]):=by
   by_cases hq:q∈l
   ·rw[if_pos hq];exact YC (λkv fB _=>by let⟨x,_,rfl⟩:=bP.mp fB;rfl) ⟨(iM q,.bl true),bP.mpr ⟨q,hq,rfl⟩,rfl⟩
   ·rw[if_neg hq,yn (λkv fB=>by let⟨x,hx,rfl⟩:=bP.mp fB;exactλz=>hq (DL z▸hx))];simp[il]
  simp! [nL,jV,jC,gz,gy,id_eq,oq,dd,DM,iq,if_true,nX,own,s1,hp,tz,tq]
def DN{rs:List Row}{i:Nat}{d:D}(h:(rs.map Row.d)[i]?=some d):∃r,rs[i]?=some r∧d=r.d:=by
 rw[cA]at h;cases e:rs[i]? with
 |none=>rw[e]at h;cases h
 |some r=>rw[e]at h;cases h;exact⟨r,rfl,rfl⟩
def yE{rs:List Row}(hl:rs.length≤400):oO [Row.d∘rs]=some (.un,.lst ((kn rs).map ao)):=by
 let⟨e',l1,o2,o3,he⟩:=du (g:=gN 2) (b:=xB) (m:=.al) (ds:=rs.map Row.d) (e:=[.al\Row.d∘rs,.bo\.dt (il []),none,none])
  (λi e=>∃o2 o3,e=[.al\Row.d∘rs,.bo\.dt (il (kn (rs.take i))),o2,o3]) ⟨none,none,rfl⟩
  (λi d e hd bu=>by
   let⟨o2,o3,he⟩:=bu;subst he;let⟨r,hr,rfl⟩:=DN hd;let hi:i<rs.length:=(a9.mp hr).1;let Cr:=yX rs i;let⟨fV,q⟩:=adj (r:=r) (l:=kn (rs.take i)) ∅ (.al\Row.d∘rs) o3;rw[←qR rs i r hr]at q;exact⟨_,_,rfl,q,_,fV,rfl⟩)
 subst he;rw[ln,w9]at l1;unfold oO fn Ik;simp only[cv,bD,bG];rw[av (e':=[.al\Row.d∘rs,.bo\.dt (il []),none,none]) rfl];rw[av (e':=[.al\Row.d∘rs,.bo\.dt (il (kn rs)),o2,o3]) (by
  rw[bT,show aZ 0 [.al\Row.d∘rs,.bo\.dt (il []),none,none]=[.al\Row.d∘rs,.bo\.dt (il []),none,none] from rfl];simp! [aU,bK,jV,gz,gy,id_eq,oq,cf,oy];exact l1)]
 simp! [aF,aL,ag,ai,jV,gz,gy,id_eq,oq,uV,own,true_or,if_true,uO];congr 3;unfold il;rw[gY];exact sC λq _=>YD q
def rG(rs:List Row):(kn rs).length≤rs.length:=by have:=yX rs rs.length;rw[w9]at this;exact this
def adk(rs:List Row):(kn rs).Nodup:=by have:=KG rs rs.length;rw[w9]at this;exact this
def adl{rs:List Row}{n:Nat}{r:Row}{q:De}(hr:rs[n]?=some r)(hd:b9 r=some q):q∈kn rs:=by
 have:=NS rs (q:=q) rs.length ⟨n,r,(a9.mp hr).1,hr,hd⟩;rw[w9]at this;exact this
theorem J3{fe:Qqj}{m:M}{fr:Ev}{x:D}(h:∀d,fe (some (m,d)::fr)=.fr\x):∀ds:Qzz,dY fu fe m fr ds=some ((List.replicate ds.length x).map λy=>(M.fr,y))
 |[]=>rfl
 |d::ds=>by rw[dY,show fu (some (m,d)::fr)=some true from rfl,oq,if_pos rfl,h,oq,J3 h ds,oq];rfl
def KH{rs:List Row}(hl:rs.length≤400):tW [Row.d∘rs]=some (.fr,bI (λ_=>true) (kn rs).length):=by
 let hk:=rG rs;let hr:=yE hl;let hb:=Mg (List.replicate (kn rs).length true) (by simp;omega);rw[List.map_replicate,z8]at hb;unfold tW fn IC;simp only[cv,bD,bG];simp! [aF,aC,ag,ai,cW,bK,jV,gz,gy,id_eq,oq,mq,mn,hr,cf,oy];rw[J3 (x:=.bl true) (λd=>rfl),oq,ln,jO (by rw[z8];omega),oq];simp! [mq,mn,oq,hb,uN];rw[D7 (p:=λj=>(List.replicate (kn rs).length true).getD j false) (q:=λ_=>true) λj hj=>by rw[ko,vI,if_pos hj];rfl]
def nY(l:List De)(r:Row)(j:Nat):Bool:=match b9 r,l[j]? with
 |some q,some q'=>decide (q=q')
 |_,_=>false
def eY(l:List De):List (List Key×D):=l.mapIdx λk q=>(iM q,.int ((2^k:Nat):Int))
def DP(l:List De):(eY l).length=l.length:=by simp[eY]
def Mi{l:List De}{kv:List Key×D}(h:kv∈eY l):∃(k:Nat) (q:De),l[k]?=some q∧kv=(iM q,.int ((2^k:Nat):Int)):=by
 let⟨i,hi,e⟩:=List.mem_iff_getElem.mp h;simp only[eY,List.getElem_mapIdx]at e;let wV:i<l.length:=by rw[DP]at hi;exact hi
 exact⟨i,l[i]'wV,by simp,e.symm⟩
def WN(l:List De)(q:De):eY (l++[q])=eY l++[(iM q,.int ((2^l.length:Nat):Int))]:=by
 simp[eY,List.mapIdx_append]
def Eu{l:List De}(h:l.Nodup){i j:Nat}{q:De}(hi:l[i]?=some q)(hj:l[j]?=some q):i=j:=by
 let wV:=(a9.mp hi).1;exact(List.getElem?_inj wV h).mp (by rw[hi,hj])
def YG{l:List De}(h:l.Nodup){k:Nat}{q:De}(hk:l[k]?=some q):dz (eY l) (iM q)=some (.int ((2^k:Nat):Int)):=by
 refine yd (λkv fB e=>?_) ?_
 ·let⟨i,q',hi,rfl⟩:=Mi fB;have:q'=q:=DL e;subst this;rw[Eu h hi hk]
 ·let qC:=(a9.mp hk).1;refine⟨_,su (l:=eY l) (n:=k) (by rw[DP];exact qC),?_⟩;simp only[eY,List.getElem_mapIdx];rw[(a9.mp hk).2]
def KJ{l:List De}{i:Nat}{d:D}(h:(bY (l.map ao))[i]?=some d):∃q,l[i]?=some q∧d=.tup [.int i,ao q]:=by
 unfold bY at h;rw[sx,cA]at h;cases e:l[i]? with
 |none=>rw[e]at h;cases h
 |some r=>rw[e]at h;cases h;exact⟨r,rfl,rfl⟩
def YH{l:List De}(h:l.Nodup){r:Row}{q:De}{k:Nat}(hd:b9 r=some q)(hk:l[k]?=some q):bH (nY l r) l.length=2^k:=by
 refine Mf (a9.mp hk).1 λj hj=>?_;unfold nY;rw[hd,dC hj];simp only[decide_eq_true_eq];constructor
 ·intro e;exact Eu h (by rw[dC hj,←e]) hk
 ·intro e;subst e;exact((a9.mp hk).2).symm
theorem Jn{fe:Qqj}{m m':M}{fr:Ev}{f:Row→D}:∀rs:List Row,(∀r∈rs,fe (some (m,r.d)::fr)=some (m',f r))→dY fu fe m fr (rs.map Row.d)=some ((rs.map f).map λy=>(m',y))
 |[],_=>rfl
 |r::rs,h=>by
  let ih:=Jn (fe:=fe) (m:=m) (m':=m') (fr:=fr) (f:=f) rs λx hx=>h x (c9 _ hx);rw[mq,dY,show fu (some (m,r.d)::fr)=some true from rfl,oq,if_pos rfl,h r cg,oq,ih,oq];rfl
def WO{rs:List Row}(hl:rs.length≤400):xv [Row.d∘rs]=some (.un,.lst (rs.map λr=>bI (nY (kn rs) r) (kn rs).length)):=by
 let hk:=rG rs;let iG:=adk rs;let hr:=yE hl;let⟨e',l1,o2,o3,he⟩:=du (g:=gT 2 (bR (gN 2) (bR (gN 3) dX))) (b:=xj) (m:=.fr) (ds:=bY ((kn rs).map ao)) (e:=[.al\Row.d∘rs,.bo\.dt (eY []),none,none])
  (λi e=>∃o2 o3,e=[.al\Row.d∘rs,.bo\.dt (eY ((kn rs).take i)),o2,o3]) ⟨none,none,rfl⟩
  (λi d e hd bu=>by
   let⟨o2,o3,he⟩:=bu;subst he;let⟨q,hq,rfl⟩:=KJ hd;let hi:i<(kn rs).length:=(a9.mp hq).1;let s1:(eY ((kn rs).take i)).length<sizeLine:=by rw[DP];exact eD (show((kn rs).take i).length≤400 by rw[lH];omega) (by decide)
   let e1:eY ((kn rs).take (i+1))=putD (eY ((kn rs).take i)) (iM q) (.int ((2^i:Nat):Int)):=by
    rw[jF,hq,oi,WN,yn (λkv fB z=>?_)]
    ·rw[lH,Nat.min_eq_left ∅]
    ·let⟨k,q',qC,rfl⟩:=Mi fB;have:q'=q:=DL z;subst this;let aX:k<i:=by
      have:=(a9.mp qC).1;rw[lH]at this;omega
     rw[List.getElem?_take_of_lt aX]at qC;have:=Eu iG qC hq;omega
   refine⟨_,[.al\Row.d∘rs,.bo\.dt (eY ((kn rs).take (i+1))),.fr\↥i,.fr\ao q],rfl,?_,_,_,rfl⟩;show xj [.al\Row.d∘rs,.bo\.dt (eY ((kn rs).take i)),.fr\↥i,.fr\ao q]=_;unfold xj;simp! [nL,ae,jV,jC,gz,gy,id_eq,oq,DK (show i≤1000 by omega),DM,iq,if_true,nX,own,s1,←e1,tz,tq])
 subst he;let hE:(bY ((kn rs).map ao)).length=(kn rs).length:=by simp[bY]
 rw[hE,qb]at l1;let ex:=Jn (fe:=uU (jV 1) (aC oM (ag (jV 0) ai)) (jC (.int 0))) (m:=.al) (m':=.fr) (fr:=[.bo\.dt (eY (kn rs))]) (f:=λr=>bI (nY (kn rs) r) (kn rs).length) rs (λr hr=>by
  simp! [uU,aC,ag,ai,jV,jC,gz,gy,id_eq,oq,mq,mn,yC,lE];cases hd:b9 r with
  |none =>
   simp! [dd,pP,if_true];unfold bI;rw[WL λj _=>by unfold nY;rw[hd]];rfl
  |some q =>
   let⟨n,hn⟩:=List.mem_iff_getElem?.mp hr;let⟨k,hk⟩:=List.mem_iff_getElem?.mp (adl hn hd);let hv:=YG iG hk;rw[show dd (some q)=D.tup [.str q.1,kD q.2.1,kD q.2.2] from rfl];simp only;rw[show mO (D.tup [.str q.1,kD q.2.1,kD q.2.2])=some (iM q)from DM q,oq,hv];simp only[bf];unfold bI;rw[YH iG hd hk])
 unfold xv fn HV;simp only[cv,bD,bG];rw[av (e':=[.al\Row.d∘rs,.bo\.dt (eY []),none,none]) rfl];rw[av (e':=[.al\Row.d∘rs,.bo\.dt (eY (kn rs)),o2,o3]) (by
  simp! [aU,gj,aC,ag,jV,ai,gz,gy,oq,id_eq,mq,mn,hr,cf,oy];exact l1)]
 simp! [aF,cW,bK,jV,gz,gy,id_eq,oq,cf,oy];rw[show gG [.al\Row.d∘rs,.bo\.dt (eY (kn rs)),o2,o3] [1]=[.bo\.dt (eY (kn rs))] from rfl,ex,oq,jO (by rw[ln];omega),oq];rfl
abbrev isNm(a:Ko)(x:Str):Bool:=match a with
 |.inr y=>decide (x=y)
 |.inl _=>false
def dD(o:Option Str)(q:De):Bool:=match o with
 |some x=>isNm q.2.1 x||isNm q.2.2 x
 |none=>false
def aeh{m n:M}{x:Str}(a:Ko):aP (m,.str x) (n,kD a)=some (.fr,.bl (isNm a x)):=by
 cases a with
 |inl i=>exact ab8
 |inr y=>exact iu
def yb(r:Row)(q:De):mh [r.d,ao q]=some (.fr,.bl (dD (sets r) q)):=by
 unfold mh fn JN;simp only[cv,bD,bG];rw[av (e':=[.al\r.d,.al\ao q,.fr\fA (sets r)]) (by ac_rfl)];cases sets r with
 |none=>rfl
 |some x =>
  let e1:au (.al,ao q) (.fr,.int 1)=some (.al,kD q.2.1):=rfl;let e2:au (.al,ao q) (.fr,.int 2)=some (.al,kD q.2.2):=rfl;simp! [aF,gM,lQ,ae,jV,jC,gz,gy,id_eq,oq,fA,e1,e2,aeh];rw[show lu (.fr,.str x) (.fr,.non)=some (.fr,.bl true)from rfl];simp! [oq,bN,if_true,dD];cases isNm q.2.1 x<;>rfl
def fW(l:List De)(o:Option Str)(j:Nat):Bool:=match l[j]? with
 |some q=>dD o q
 |none=>false
abbrev nK:Option Str→Key
 |some x=>.inr x
 |none=>.non
abbrev pX:Key→Option Str
 |.inr x=>some x
 |_=>none
def Mj(o:Option Str):pX (nK o)=o:=by cases o<;>rfl
def Dg(o:Option Str):keyOf (fA o)=some (nK o):=by cases o<;>rfl
theorem Jo{fe:Qqj}{m m':M}{fr:Ev}{f:De→D}:∀rs:List De,(∀r∈rs,fe (some (m,ao r)::fr)=some (m',f r))→dY fu fe m fr (rs.map ao)=some ((rs.map f).map λy=>(m',y))
 |[],_=>rfl
 |r::rs,h=>by
  let ih:=Jo (fe:=fe) (m:=m) (m':=m') (fr:=fr) (f:=f) rs λx hx=>h x (c9 _ hx);rw[mq,dY,show fu (some (m,ao r)::fr)=some true from rfl,oq,if_pos rfl,h r cg,oq,ih,oq];rfl
def adn{l:List De}(hl:l.length≤400){m1:M}(h1:m1=.bo∨m1=.fr)(A0:Qzq){nm:List (Key×D)}(hn:∀kv∈nm,kv.2=bI (fW l (pX kv.1)) l.length)(xa:nm.length≤400){bs:Qzz}(Ct:bs.length≤400)(r:Row)(o5:Qzq) :
  ∃xc jM dm,xn [A0,some (m1,ao∘l),.bo\.dk nm,.bo\.lst bs,.al\r.d,o5]=some (.nx [A0,some (xc,ao∘l),.bo\.dk jM,.bo\.lst (bs++[bI (fW l (sets r)) l.length]),.al\r.d,dm])∧(xc=.bo∨xc=.fr)∧(∀kv∈jM,kv.2=bI (fW l (pX kv.1)) l.length)∧jM.length≤nm.length+1:=by
 let s1:nm.length<sizeLine:=eD xa (by decide);let s2:bs.length<sizeLine:=eD Ct (by decide);let hc:(jB (f6 true (jV 5) (jV 2))) [A0,some (m1,ao∘l),.bo\.dk nm,.bo\.lst bs,.al\r.d,.fr\fA (sets r)]=some (!(dz nm (nK (sets r))).isSome):=by
  simp! [jB,f6,jV,gz,gy,id_eq,oq,j9,Dg,if_true,bN]
 let fin:∀(m2:M) (jM:List (Key×D)),(∀kv∈jM,kv.2=bI (fW l (pX kv.1)) l.length)→(∃kv∈jM,kv.1=nK (sets r))→cE 3 (pA (jV 2) (jV 5)) [A0,some (m2,ao∘l),.bo\.dk jM,.bo\.lst bs,.al\r.d,.fr\fA (sets r)]=some (.nx [A0,some (m2,ao∘l),.bo\.dk jM,.bo\.lst (bs++[bI (fW l (sets r)) l.length]),.al\r.d,.fr\fA (sets r)]):=λm2 jM lL hi=>by
  let hv:dz jM (nK (sets r))=some (bI (fW l (sets r)) l.length):=yd (λkv fB e=>by rw[lL kv fB,e,Mj]) hi;simp! [cE,pA,jV,gz,gy,id_eq,oq,j9,Dg,hv,pf,iq,if_true,dZ,own,s2,tz,tq]
 unfold xn;rw[av (e':=[A0,some (m1,ao∘l),.bo\.dk nm,.bo\.lst bs,.al\r.d,.fr\fA (sets r)]) (by ac_rfl)];cases hb:(dz nm (nK (sets r))).isSome with
 |true =>
  rw[fU (by rw[hc,hb];rfl)];exact⟨m1,nm,_,fin m1 nm hn (IL.mp hb),h1,hn,by omega⟩
 |false =>
  let ex:=Jo (fe:=aC mh (ag (jV 1) (ag (jV 0) ai))) (m:=.fr) (m':=.fr) (fr:=[.al\r.d]) (f:=λq=>D.bl (dD (sets r) q)) l (λq _=>by
   simp! [aC,ag,ai,jV,gz,gy,id_eq,oq,mq,mn,yb])
  let HJ:=Mg (l.map (dD (sets r))) (by rw[ln];omega);rw[gY,ln]at HJ;let kr:bI (λj=>(l.map (dD (sets r))).getD j false) l.length=bI (fW l (sets r)) l.length:=D7 λj hj=>by
   rw[ko,cA,dC hj];unfold fW;rw[dC hj];rfl
  rw[kr]at HJ;rw[av (e':=[A0,.fr\ao∘l,.bo\.dk (putD nm (nK (sets r)) (bI (fW l (sets r)) l.length)),.bo\.lst bs,.al\r.d,.fr\fA (sets r)]) (by
   rw[bF (by rw[hc,hb];rfl)];rw[bT,show aZ 1 [A0,some (m1,ao∘l),.bo\.dk nm,.bo\.lst bs,.al\r.d,.fr\fA (sets r)]=[A0,.fr\ao∘l,.bo\.dk nm,.bo\.lst bs,.al\r.d,.fr\fA (sets r)] from by rcases h1 with rfl|rfl<;>rfl];simp! [lA,aC,cW,bK,ag,ai,jV,gz,gy,id_eq,oq,cf,oy];rw[show gG [A0,.fr\ao∘l,.bo\.dk nm,.bo\.lst bs,.al\r.d,.fr\fA (sets r)] [4]=[.al\r.d] from rfl,ex,oq,jO (by rw[ln];omega),oq];simp! [mq,mn,oq];rw[show(l.map λq=>D.bl (dD (sets r) q))=l.map (Function.comp D.bl (dD (sets r)))from rfl,HJ];simp! [oq,Dg,iq,if_true,mN,own,gz,gy,s1,tz,tq])]
  let lL:∀kv∈putD nm (nK (sets r)) (bI (fW l (sets r)) l.length),kv.2=bI (fW l (pX kv.1)) l.length:=λkv fB=>by
   rcases KD fB with⟨z,_⟩|rfl
   ·exact hn kv z
   ·show _=bI (fW l (pX (nK (sets r)))) l.length;rw[Mj]
  exact⟨.fr,_,_,fin .fr _ lL putD_has,.inr rfl,lL,KC _ _ _⟩
def WQ{rs:List Row}(hl:rs.length≤300):xC [Row.d∘rs]=some (.un,.lst (rs.map λr=>bI (fW (kn rs) (sets r)) (kn rs).length)):=by
 let hk:=rG rs;let hr:=yE (rs:=rs) ∅;let⟨e',l1,m1,nm,o4,o5,he,_,_,_⟩:=du (g:=gN 4) (b:=xn) (m:=.al) (ds:=rs.map Row.d) (e:=[.al\Row.d∘rs,.bo\.lst ((kn rs).map ao),.bo\.dk [],.bo\.lst [],none,none])
  (λi e=>∃(m1:M) (nm:List (Key×D)) (o4 o5:Qzq),e=[.al\Row.d∘rs,some (m1,.lst ((kn rs).map ao)),.bo\.dk nm,.bo\.lst ((rs.take i).map λr=>bI (fW (kn rs) (sets r)) (kn rs).length),o4,o5]∧(m1=.bo∨m1=.fr)∧(∀kv∈nm,kv.2=bI (fW (kn rs) (pX kv.1)) (kn rs).length)∧nm.length≤i)
  ⟨.bo,[],none,none,rfl,.inl rfl,(λkv h=>nomatch h),aW _⟩
  (λi d e hd bu=>by
   let⟨m1,nm,o4,o5,he,h1,h2,h3⟩:=bu;subst he;let⟨r,hr,rfl⟩:=DN hd;let hi:i<rs.length:=(a9.mp hr).1;let⟨xc,jM,dm,q,g1,g2,g3⟩:=adn (l:=kn rs) ∅ h1 (.al\Row.d∘rs) h2 ∅ (bs:=(rs.take i).map λr=>bI (fW (kn rs) (sets r)) (kn rs).length) (by rw[ln,lH];omega) r o5;refine⟨_,_,rfl,q,xc,jM,.al\r.d,dm,?_,g1,g2,by omega⟩;rw[jF,hr,oi,km];rfl)
 subst he;rw[ln,qb]at l1;unfold xC fn HY;simp only[cv,bD,bG];rw[av (e':=[.al\Row.d∘rs,.bo\.lst ((kn rs).map ao),none,none,none,none]) (by ac_rfl)];rw[av (e':=[.al\Row.d∘rs,.bo\.lst ((kn rs).map ao),.bo\.dk [],none,none,none]) rfl];rw[av (e':=[.al\Row.d∘rs,.bo\.lst ((kn rs).map ao),.bo\.dk [],.bo\.lst [],none,none]) rfl];rw[av (e':=[.al\Row.d∘rs,some (m1,.lst ((kn rs).map ao)),.bo\.dk nm,.bo\.lst (rs.map λr=>bI (fW (kn rs) (sets r)) (kn rs).length),o4,o5]) (by
  rw[bT,show aZ 0 [.al\Row.d∘rs,.bo\.lst ((kn rs).map ao),.bo\.dk [],.bo\.lst [],none,none]=[.al\Row.d∘rs,.bo\.lst ((kn rs).map ao),.bo\.dk [],.bo\.lst [],none,none] from rfl];simp! [aU,bK,jV,gz,gy,id_eq,oq,cf,oy];exact l1)]
 rfl
def Dh{c:Qqx}{b:Qqq}(Iv:Nat→Ev→Prop)(Rt:M→D→Prop)
    (hs:∀n e,Iv n e→c e=some false∨(c e=some true∧((∃e2 n2,(b e=some (.nx e2)∨b e=some (.ct e2))∧Iv n2 e2∧n2<n)∨∃e2 m d,b e=some (.rt e2 m d)∧Rt m d))) {n:Nat}{e:Ev} (h0:Iv n e) :
    (∃e' n',ip c b e=some (.nx e')∧Iv n' e'∧c e'=some false)∨∃e' m d,ip c b e=some (.rt e' m d)∧Rt m d:=by
  have:∀(k n:Nat) e,n≤k→Iv n e→(∃e' n',dI c b (k+1) e=some (.nx e')∧Iv n' e'∧c e'=some false)∨∃e' m d,dI c b (k+1) e=some (.rt e' m d)∧Rt m d:=by
    intro k
    induction k with
    |zero =>
      intro n e hn hi;rcases hs n e hi with h|⟨h,⟨e2,n2,_,_,z⟩|⟨e2,m,d,h1,h2⟩⟩
      · exact .inl ⟨e,n,by simp[dI,h],hi,h⟩
      · omega
      · exact .inr ⟨e2,m,d,by rw[dI,h,oq,if_pos rfl,h1,oq],h2⟩
    |succ k ih =>
      intro n e hn hi;rcases hs n e hi with h|⟨h,⟨e2,n2,h1,h2,h3⟩|⟨e2,m,d,h1,h2⟩⟩
      · exact .inl ⟨e,n,by simp[dI,h],hi,h⟩
      · have w:dI c b (k+1+1) e=dI c b (k+1) e2:=by
          rw[dI,h,oq,if_pos rfl];rcases h1 with h1|h1<;>rw[h1,oq]
        rw[w];exact ih n2 e2 ∅ h2
      · exact .inr ⟨e2,m,d,by rw[dI,h,oq,if_pos rfl,h1,oq],h2⟩
  rcases this n n e (aW _) h0 with⟨e',n',h1,h2,h3⟩|⟨e',m,d,h1,h2⟩
  · exact .inl ⟨e',n',CW h1,h2,h3⟩
  · exact .inr ⟨e',m,d,CW h1,h2⟩
abbrev aV(P:Nat→Nat→Bool)(N K:Nat):Qzz:=(List.range N).map λn=>bI (P n) K
def yF(P:Nat→Nat→Bool)(N K:Nat):(aV P N K).length=N:=by simp[aV]
def uX{P:Nat→Nat→Bool}{N K m:Nat}(h:m<N):L2.bp (aV P N K) (m:Int)=some (bI (P m) K):=by
 rw[ml (by rw[yF];exact h)];simp[aV]
theorem KL:∀{ds:Qzz},(∀d∈ds,d.cB=true)→D.cO ds=true
 |[],_=>by simp only[D.cO]
 |d::ds,h=>by simp only[D.cO,h d List.mem_cons_self,KL λx hx=>h x (List.mem_cons_of_mem _ hx),Bool.and_self]
def YJ(P:Nat→Nat→Bool)(N K:Nat):D.cO (aV P N K)=true:=KL λd hd=>by
 let⟨n,_,rfl⟩:=bP.mp hd;exact abj
abbrev f7(P:Nat→Nat→Bool)(m:Nat)(q:Nat→Bool):Nat→Nat→Bool:=λn=>if n=m then q else P n
def Ml(P:Nat→Nat→Bool)(N K m:Nat)(q:Nat→Bool):(aV P N K).set m (bI q K)=aV (f7 P m q) N K:=by
 refine Ar (by simp[aV]) λi h1 h2=>?_;rw[List.getElem_set];simp only[aV,List.getElem_map,List.getElem_range,f7];by_cases e:m=i
 ·rw[if_pos e,if_pos e.symm]
 ·rw[if_neg e,if_neg λz=>e z.symm]
abbrev cz(p:Nat→Bool):Nat→Nat
 |0=>0
 |k+1=>cz p k+(if p k=true then 0 else 1)
theorem OV(p:Nat→Bool):∀k,cz p k≤k
 |0=>aW _
 |k+1=>by have:=OV p k;rw[cz];split<;>omega
theorem Mm{p q:Nat→Bool}:∀{k:Nat},(∀j,j<k→p j=true→q j=true)→cz q k≤cz p k∧(cz q k=cz p k→∀j,j<k→p j=q j)
 |0,_=>⟨aW _,λ_ j h=>absurd h (kl j)⟩
 |k+1,h=>by
  let⟨h1,h2⟩:=Mm (k:=k) λj hj=>h j ∅;let hk:=h k ∅;rw[cz,cz];cases hp:p k with
  |true =>
   rw[hk hp];simp only[if_true,Nat.add_zero];refine⟨h1,λe j hj=>?_⟩;by_cases z:j=k
   ·subst z;rw[hp,hk hp]
   ·exact h2 e j ∅
  |false =>
   cases hq:q k with
   |true=>simp;exact⟨by omega,λe=>by omega⟩
   |false =>
    simp;refine⟨h1,λe j hj=>?_⟩;by_cases z:j=k
    ·subst z;rw[hp,hq]
    ·exact h2 e j ∅
abbrev cS(P:Nat→Nat→Bool)(K:Nat):Nat→Nat
 |0=>0
 |n+1=>cS P K n+cz (P n) K
theorem NT(P:Nat→Nat→Bool)(K:Nat):∀N,cS P K N≤N*K
 |0=>by simp[cS]
 |n+1=>by have:=NT P K n;have:=OV (P n) K;rw[cS,Nat.succ_mul];omega
theorem Mp{P:Nat→Nat→Bool}{K m:Nat}{q:Nat→Bool}:∀{N:Nat},N≤m→cS (f7 P m q) K N=cS P K N
 |0,_=>rfl
 |n+1,h=>by
  rw[cS,cS,Mp ∅];have:f7 P m q n=P n:=if_neg ∅;rw[this]
theorem NV{P:Nat→Nat→Bool}{K m:Nat}{q:Nat→Bool}(h:cz q K<cz (P m) K):∀{N:Nat},m<N→cS (f7 P m q) K N<cS P K N
 |0,hm=>absurd hm (kl m)
 |n+1,hm=>by
  rw[cS,cS];by_cases e:m=n
  ·subst e;rw[Mp (aW m)];have:f7 P m q m=q:=if_pos rfl;rw[this];omega
  ·let ih:=NV h (N:=n) ∅;have:f7 P m q n=P n:=if_neg λz=>e z.symm;rw[this];omega
def Cl(Bk:List (Qxj))(pass P:Nat→Nat→Bool)(K n:Nat):Prop:=∀m∈Bk.getD n [],∀j,j<K→P n j=true→pass m j=true→P m j=true
structure SI (Bk:List (Qxj))(pass P0:Nat→Nat→Bool)(N K:Nat)(P:Nat→Nat→Bool):Prop where
 up:∀n j,n<N→j<K→P0 n j=true→P n j=true
 sd:∀Q:Nat→Nat→Prop,(∀n j,n<N→j<K→P0 n j=true→Q n j)→(∀n m j,n<N→m∈Bk.getD n []→j<K→Q n j→pass m j=true→Q m j)→∀n j,n<N→j<K→P n j=true→Q n j
def WR{Bk:List (Qxj)}{pass P0:Nat→Nat→Bool}{N K:Nat}(A1:Qzq)(hN:N≤400){n:Nat}(hn:n<N){P:Nat→Nat→Bool}(si:SI Bk pass P0 N K P){m:Nat}(hm:m<N)(wX:m∈Bk.getD n []){ws:Qxj}(hw:ws.length≤1000000)(o7:Qzq) :
  ∃P' cT bU,ua [.al\.lst (bz Bk),A1,.al\.lst (aV pass N K),.bo\.lst (aV P N K),.bo\⇑ws,.fr\↥n,.al\↥m,o7]=some (.nx [.al\.lst (bz Bk),A1,.al\.lst (aV pass N K),.bo\.lst (aV P' N K),.bo\⇑cT,.fr\↥n,.al\↥m,bU]) ∧
   SI Bk pass P0 N K P'∧(∀j,j<K→P' n j=P n j)∧(∀x j,j<K→P x j=true→P' x j=true)∧(∀j,j<K→P n j=true→pass m j=true→P' m j=true)∧(∀x∈ws,x∈cT)∧(∀x,x∉cT→∀j,P' x j=P x j)∧2*cS P' K N+cT.length≤2*cS P K N+ws.length∧(∀x∈cT,x∈ws∨x=m):=by
 let s1:ws.length<sizeLine:=eD hw (by decide)
 refine(let q:Nat→Bool:=λj=>P m j||(P n j&&pass m j);?_)
 let hq:q=λj=>P m j||(P n j&&pass m j):=rfl;unfold ua;rw[av (e':=[.al\.lst (bz Bk),A1,.al\.lst (aV pass N K),.bo\.lst (aV P N K),.bo\⇑ws,.fr\↥n,.al\↥m,.fr\bI q K]) (by
  simp! [ax,ae,jV,gz,gy,id_eq,oq,cZ,uX hm,uX hn,oy,pf,gw,abi,OU,mr,tz,tq,hq])]
 let hc:(jB (ae jI (jV 7) (ae au (jV 3) (jV 6)))) [.al\.lst (bz Bk),A1,.al\.lst (aV pass N K),.bo\.lst (aV P N K),.bo\⇑ws,.fr\↥n,.al\↥m,.fr\bI q K]=some (!decide (((bH q K:Nat):Int)=((bH (P m) K:Nat):Int))):=by
  simp! [jB,ae,jV,gz,gy,id_eq,oq,cZ,uX hm,oy,pf];unfold bI;rw[zh];rfl
 by_cases he:bH q K=bH (P m) K
 ·rw[bE (by rw[hc,he];simp)];refine⟨P,ws,_,rfl,si,λ_ _=>rfl,λ_ _ _ h=>h,λj hj h1 h2=>?_,λ_ h=>h,λ_ _ _=>rfl,aW _,λ_ h=>.inl h⟩;have:=YB he j hj;rw[←this,hq];simp[h1,h2]
 ·let aX:cz q K<cz (P m) K:=by
   let⟨h1,h2⟩:=Mm (p:=P m) (q:=q) (k:=K) λj _ h=>by rw[hq];simp[h]
   rcases Nat.lt_or_eq_of_le h1 with z|z
   ·exact z
   ·exact absurd (uK λj hj=>(h2 z j hj).symm) he
  let gi:n≠m:=λe=>he (uK λj _=>by
   show(P m j||(P n j&&pass m j))=P m j;rw[e];by_cases h:P m j=true<;>simp[h])
  rw[bF (by rw[hc,eQ (λz=>he ∅)];rfl)];let qB:dh (aV P N K).length (m:Int)=some m:=by
   unfold dh;rw[yF,if_pos ∅,if_pos ∅];simp
  let um:f7 P m q m=q:=if_pos rfl;let ux:∀x,x≠m→f7 P m q x=P x:=λx h=>if_neg h;refine⟨f7 P m q,ws++[m],.fr\bI q K,?_,⟨λx j hx hj h=>?_,λQ h1 h2 x j hx hj h=>?_⟩,λj _=>by rw[ux n gi],λx j _ h=>?_,λj _ h1 h2=>by rw[um,hq];simp[h1,h2],λx h=>jA _ h,λx hx j=>by rw[ux x λe=>hx (by rw[e];simp)],?_,λx hx=>by simpa using hx⟩
  ·simp! [aq,fD,cE,jV,gz,gy,id_eq,oq,lj,iq,if_true,dZ,own,qB,Ml,tz,tq,uQ,pP,dW,s1,uB]
  ·by_cases e:x=m
   ·subst e;rw[um,hq];simp[si.up x j hx hj h]
   ·rw[ux x e];exact si.up x j hx hj h
  ·by_cases e:x=m
   ·subst e;rw[um,hq]at h;simp only[Bool.or_eq_true,Bool.and_eq_true]at h;rcases h with h|⟨h,h'⟩
    ·exact si.sd Q h1 h2 x j hx hj h
    ·exact h2 n x j hn wX hj (si.sd Q h1 h2 n j hn hj h) h'
   ·rw[ux x e]at h;exact si.sd Q h1 h2 x j hx hj h
  ·by_cases e:x=m
   ·subst e;rw[um,hq];simp[h]
   ·rw[ux x e];exact h
  ·have:=NV aX hm;rw[fw];simp only[List.length_cons,List.length_nil];omega
def Vq{Bk:List (Qxj)}{pass P0:Nat→Nat→Bool}{N K:Nat}(A1:Qzq)(hN:N≤400){n:Nat}(hn:n<N){P:Nat→Nat→Bool}(si:SI Bk pass P0 N K P)(hm:∀m∈Bk.getD n [],m<N){ws:Qxj}(hw:2*cS P K N+ws.length≤900000)(o6 o7:Qzq) :
  ∃P' cT cw bU,forL (gN 6) ua .al (ak (Bk.getD n [])) [.al\.lst (bz Bk),A1,.al\.lst (aV pass N K),.bo\.lst (aV P N K),.bo\⇑ws,.fr\↥n,o6,o7]=some (.nx [.al\.lst (bz Bk),A1,.al\.lst (aV pass N K),.bo\.lst (aV P' N K),.bo\⇑cT,.fr\↥n,cw,bU]) ∧
   SI Bk pass P0 N K P'∧(∀j,j<K→P' n j=P n j)∧(∀x j,j<K→P x j=true→P' x j=true)∧(∀m∈Bk.getD n [],∀j,j<K→P n j=true→pass m j=true→P' m j=true)∧(∀x∈ws,x∈cT)∧(∀x,x∉cT→∀j,P' x j=P x j)∧2*cS P' K N+cT.length≤2*cS P K N+ws.length∧∀x∈cT,x∈ws∨x<N:=by
 generalize hms:Bk.getD n []=ms at hm;let⟨e',l1,P',cT,cw,bU,he,a1,a2,a3,a4,a5,a6,a7,a8⟩:=du (g:=gN 6) (b:=ua) (m:=.al) (ds:=ak ms) (e:=[.al\.lst (bz Bk),A1,.al\.lst (aV pass N K),.bo\.lst (aV P N K),.bo\⇑ws,.fr\↥n,o6,o7])
  (λi e=>∃(P':Nat→Nat→Bool) (cT:Qxj) (o6 o7:Qzq),e=[.al\.lst (bz Bk),A1,.al\.lst (aV pass N K),.bo\.lst (aV P' N K),.bo\⇑cT,.fr\↥n,o6,o7] ∧
   SI Bk pass P0 N K P'∧(∀j,j<K→P' n j=P n j)∧(∀x j,j<K→P x j=true→P' x j=true)∧(∀m∈ms.take i,∀j,j<K→P n j=true→pass m j=true→P' m j=true)∧(∀x∈ws,x∈cT)∧(∀x,x∉cT→∀j,P' x j=P x j)∧2*cS P' K N+cT.length≤2*cS P K N+ws.length∧∀x∈cT,x∈ws∨x<N)
  ⟨P,ws,o6,o7,rfl,si,(λ_ _=>rfl),(λ_ _ _ h=>h),(λm h=>by simp at h),(λ_ h=>h),(λ_ _ _=>rfl),aW _,λ_ h=>.inl h⟩
  (λi d e hd bu=>by
   let⟨P1,ws1,o6,o7,he,a1,a2,a3,a4,a5,a6,a7,a8⟩:=bu;subst he;obtain⟨m,Tw,rfl⟩:∃m,ms[i]?=some m∧d=↥m:=by
    unfold ak at hd;rw[cA]at hd;cases e:ms[i]? with
    |none=>rw[e]at hd;cases hd
    |some r=>rw[e]at hd;cases hd;exact⟨r,rfl,rfl⟩
   let Fy:=dO Tw;let⟨P2,Cu,bU,q,b1,b2,b3,b4,b5,b6,b7,b8⟩:=WR A1 hN hn a1 (hm m Fy) (by rw[hms];exact Fy) (ws:=ws1) ∅ o7;refine⟨_,_,rfl,q,P2,Cu,_,bU,rfl,b1,λj hj=>by rw[b2 j hj,a2 j hj],λx j hj h=>b3 x j hj (a3 x j hj h),λx hx j hj h1 h2=>?_,λx h=>b5 x (a5 x h),λx hx j=>?_,by omega,λx hx=>?_⟩
   ·rw[jF,Tw]at hx;rcases iD.mp hx with z|z
    ·exact b3 x j hj (a4 x z j hj h1 h2)
    ·have:x=m:=by simpa using z
     subst this;exact b4 j hj (by rw[a2 j hj];exact h1) h2
   ·rw[b6 x hx j,a6 x (λz=>hx (b5 x z)) j]
   ·rcases b8 x hx with z|z
    ·exact a8 x z
    ·exact .inr (z▸hm m Fy))
 subst he;rw[dW,qb]at a4;exact⟨P',cT,cw,bU,l1,a1,a2,a3,a4,a5,a6,a7,a8⟩
def Vr{Bk:List (Qxj)}{pass P0:Nat→Nat→Bool}{N K:Nat}(hB:Bk.length=N)(hN:N≤400)(hK:K≤400)(hm:∀n,∀m∈Bk.getD n [],m<N) :
  ∃P,yl [.lst (bz Bk),.lst (aV P0 N K),.lst (aV pass N K)]=.un\.lst (aV P N K)∧SI Bk pass P0 N K P∧∀n,n<N→Cl Bk pass P K n:=by
 let hNK:N*K≤160000:=Nat.mul_le_mul hN hK;obtain⟨e',n',l1,⟨P,ws,o5,o6,o7,he,si,hw,hmu,tF⟩,hc⟩|⟨_,_,_,_,hf⟩:=Dh (c:=ub) (b:=CP)
  (λmu e=>∃(P:Nat→Nat→Bool) (ws:Qxj) (o5 o6 o7:Qzq),e=[.al\.lst (bz Bk),.al\.lst (aV P0 N K),.al\.lst (aV pass N K),.bo\.lst (aV P N K),.bo\⇑ws,o5,o6,o7]∧SI Bk pass P0 N K P∧(∀x∈ws,x<N)∧(2*cS P K N+ws.length=mu∧mu≤900000)∧∀n,n<N→n∉ws→Cl Bk pass P K n)
  (λ_ _=>False)
  (λmu e bu=>by
   let⟨P,ws,o5,o6,o7,he,si,hw,hmu,tF⟩:=bu;subst he;let hC:ub [.al\.lst (bz Bk),.al\.lst (aV P0 N K),.al\.lst (aV pass N K),.bo\.lst (aV P N K),.bo\⇑ws,o5,o6,o7]=some (decide ((0:Int)<(ws.length:Int))):=by
    unfold ub;simp! [jB,ae,aL,ag,ai,jV,jC,gz,gy,id_eq,oq,dE,dW,pv,bN]
   rw[hC];rcases List.eq_nil_or_concat ws with rfl|⟨cT,n,rfl⟩
   ·exact .inl rfl
   rw[List.concat_eq_append]at *
   let hnN:n<N:=hw n (by simp);refine .inr ⟨by rw[dP (by rw[fw];simp only[List.length_cons,List.length_nil];omega)],.inl ?_⟩;let hl:(cT++[n]).length=cT.length+1:=by simp
   let⟨P',Cu,cw,bU,q,a1,a2,a3,a4,a5,a6,a7,a8⟩:=Vq (pass:=pass) (P0:=P0) (.al\.lst (aV P0 N K)) hN hnN si (hm n) (ws:=cT) ∅ o6 o7;refine⟨_,2*cS P' K N+Cu.length,.inl ?_,⟨P',Cu,.fr\↥n,cw,bU,rfl,a1,λx hx=>?_,⟨rfl,by omega⟩,λx hx Tx=>?_⟩,by omega⟩
   ·unfold CP;let aei:vx 5 4 [.al\.lst (bz Bk),.al\.lst (aV P0 N K),.al\.lst (aV pass N K),.bo\.lst (aV P N K),.bo\.lst (ak (cT++[n])),o5,o6,o7]=some (.nx [.al\.lst (bz Bk),.al\.lst (aV P0 N K),.al\.lst (aV pass N K),.bo\.lst (aV P N K),.bo\⇑cT,.fr\↥n,o6,o7]):=by
     let e1:(ak (cT++[n]))[(ak (cT++[n])).length-1]?=some (↥n):=by simp[ak]
     let e2:(ak (cT++[n])).dropLast=ak cT:=by simp[ak]
     simp! [vx,dZ,own,if_true,gz,gy,oq,e1,e2,tz,tq]
    rw[av aei];let Tz:n<Bk.length:=by omega
    let Cp:L2.bp (bz Bk) (n:Int)=some (.lst (ak (Bk.getD n []))):=by
     rw[J.ml (by simpa[bz]using Tz)];simp only[bz,List.getElem_map];rw[ko,dC Tz];rfl
    simp! [aU,bK,ae,jV,gz,gy,id_eq,oq,cZ,Cp,oy,gw,cf];exact q
   ·rcases a8 x hx with z|z
    ·exact hw x (jA _ z)
    ·exact z
   ·by_cases TB:x=n
    ·subst TB;exactλm qD j hj h1 h2=>a4 m qD j hj (by rw[←a2 j hj];exact h1) h2
    ·let aej:x∉cT++[n]:=λz=>by
      rcases iD.mp z with y|y
      ·exact Tx (a5 x y)
      ·exact TB (by simpa using y)
     exactλm qD j hj h1 h2=>a3 m j hj (tF x hx aej m qD j hj (by rw[←a6 x Tx j];exact h1) h2))
  (n:=2*cS P0 K N+N) (e:=[.al\.lst (bz Bk),.al\.lst (aV P0 N K),.al\.lst (aV pass N K),.bo\.lst (aV P0 N K),.bo\.lst (ak (List.range N)),none,none,none])
  ⟨P0,List.range N,none,none,none,rfl,⟨λ_ _ _ _ h=>h,λQ h1 _=>h1⟩,(λx h=>iC.mp h),⟨by rw[vP],by have:=NT P0 K N;omega⟩,λn h1 h2=>absurd (iC.mpr h1) h2⟩
 ·subst he;let hz:ws=[]:=by
   unfold ub at hc;simp! [jB,ae,aL,ag,ai,jV,jC,gz,gy,id_eq,oq,dE,dW,pv,bN]at hc;have:=eC hc;rw[decide_eq_false_iff_not]at this;exact List.length_eq_zero_iff.mp ∅
  subst hz;refine⟨P,?_,si,λn hn=>tF n hn (λz=>nomatch z)⟩;let cQ:-4611686018427387904≤(N:Int)∧(N:Int)≤16777216:=by omega
  let ht:(N:Int).toNat=N:=by omega
  unfold yl fn Kv;simp only[cv,bD,bG];rw[av (e':=[.al\.lst (bz Bk),.al\.lst (aV P0 N K),.al\.lst (aV pass N K),.bo\.lst (aV P0 N K),none,none,none,none]) (by
   simp! [ax,aL,ag,ai,jV,ve,aas (YJ P0 N K),gz,gy,id_eq,oq,mv,tz,tq])]
  rw[av (e':=[.al\.lst (bz Bk),.al\.lst (aV P0 N K),.al\.lst (aV pass N K),.bo\.lst (aV P0 N K),.bo\.lst (ak (List.range N)),none,none,none]) (by
   simp! [ax,tf,aL,ag,ai,jV,gz,gy,id_eq,oq,dE,yF,cQ,and_self,if_true,ht,mv,uI,tz,tq])]
  rw[av l1];rfl
 ·exact hf.elim
abbrev lift(rs:List Row)(g:Row→Nat→Bool)(n j:Nat):Bool:=match rs[n]? with
 |some r=>g r j
 |none=>false
def k8{rs:List Row}{g:Row→Nat→Bool}{n:Nat}{r:Row}(h:rs[n]?=some r)(j:Nat):lift rs g n j=g r j:=by unfold lift;rw[h]
def KN(rs:List Row)(g:Row→Nat→Bool)(K:Nat):(rs.map λr=>bI (g r) K)=aV (lift rs g) rs.length K:=by
 refine Ar (by simp[aV]) λi h1 h2=>?_;simp only[aV,List.getElem_map,List.getElem_range];let hi:i<rs.length:=by simpa using h1
 exact D7 λj _=>(k8 (by simp) j).symm
def fX(l:List De)(r:Row)(j:Nat):Bool:=true&&!nY l r j
theorem Jp{α:Type}{fe:Qqj}{m m':M}{fr:Ev}{g f:α→D}:∀rs:List α,(∀r∈rs,fe (some (m,g r)::fr)=some (m',f r))→dY fu fe m fr (rs.map g)=some ((rs.map f).map λy=>(m',y))
 |[],_=>rfl
 |r::rs,h=>by
  let ih:=Jp (fe:=fe) (m:=m) (m':=m') (fr:=fr) (g:=g) (f:=f) rs λx hx=>h x (c9 _ hx);rw[mq,dY,show fu (some (m,g r)::fr)=some true from rfl,oq,if_pos rfl,h r cg,oq,ih,oq];rfl
def gq(l:List De)(r:Row)(j:Nat):Bool:=fW l (sets r) j
inductive f9 (rs:List Row)(j:Nat):Nat→Prop
 |chg {n:Nat}{r:Row}:rs[n]?=some r→gq (kn rs) r j=true→f9 rs j n
 |start {n:Nat}{r:Row}:rs[n]?=some r→n=0→fX (kn rs) r j=true→f9 rs j n
 |step {n m:Nat}{r:Row}:rs[m]?=some r→fX (kn rs) r j=true→aQ rs n m→f9 rs j n→f9 rs j m
def Mq(rs:List Row){n:Nat}(h:n<rs.length):((List.range rs.length).map (dR rs)).getD n []=dR rs n:=by
 rw[ko,cA,Ap h];rfl
def KP{rs:List Row}{n m:Nat}(h:m∈((List.range rs.length).map (dR rs)).getD n []):n<rs.length∧m∈dR rs n:=by
 by_cases z:n<rs.length
 ·rw[Mq rs z]at h;exact⟨z,h⟩
 ·rw[ko,og (by simpa using z)]at h;cases h
def YK{rs:List Row}(g:Good rs)(hl:rs.length≤300):∃P,xk [Row.d∘rs]=.un\.lst (aV P rs.length (kn rs).length)∧∀n j,n<rs.length→j<(kn rs).length→(P n j=true↔f9 rs j n):=by
 let hk:=rG rs;let hp:=g.pos;let e1:=KH (rs:=rs) ∅;let e2:=WO (rs:=rs) ∅;let e3:=WQ (rs:=rs) ∅;let e4:=CQ (rs:=rs) ∅;rw[Ys g]at e4;generalize hK:(kn rs).length=K at e1 e2 e3 hk;let⟨P,e6,si,cl⟩:=Vr (Bk:=(List.range rs.length).map (dR rs)) (pass:=lift rs (fX (kn rs))) (P0:=f7 (lift rs (gq (kn rs))) 0 λj=>lift rs (gq (kn rs)) 0 j||lift rs (fX (kn rs)) 0 j) (N:=rs.length) (K:=K) (by simp) ∅ ∅ (λn m hm=>by let⟨_,_,_,z⟩:=qM g (KP hm).2;exact z);refine⟨P,?_,λn j hn hj=>⟨λh=>?_,λh=>?_⟩⟩
 ·let ex:=Jp (fe:=ae gX (jV 1) (cj nV (jV 0))) (m:=.fr) (m':=.fr) (fr:=[.fr\bI (λ_=>true) K]) (g:=λr=>bI (nY (kn rs) r) K) (f:=λr=>bI (fX (kn rs) r) K) rs (λr _=>by
   simp! [ae,cj,jV,gz,gy,id_eq,oq];exact NR)
  unfold xk fn HM;simp only[cv,bD,bG];rw[av (e':=[.al\Row.d∘rs,.fr\bI (λ_=>true) K,none,none]) (by
   simp! [ax,aC,ag,ai,jV,gz,gy,id_eq,oq,mq,mn,e1,mr,tz,tq])]
  rw[av (e':=[.al\Row.d∘rs,.fr\bI (λ_=>true) K,.bo\.lst (aV (lift rs (fX (kn rs))) rs.length K),none]) (by
   simp! [ax,cW,bK,aC,ag,ai,jV,gz,gy,id_eq,oq,mq,mn,e2,cf,oy];rw[show gG [.al\Row.d∘rs,.fr\bI (λ_=>true) K,none,none] [1]=[.fr\bI (λ_=>true) K] from rfl,ex,oq,jO (by rw[ln];omega),oq,KN];rfl)]
  rw[av (e':=[.al\Row.d∘rs,.fr\bI (λ_=>true) K,.bo\.lst (aV (lift rs (fX (kn rs))) rs.length K),.bo\.lst (aV (lift rs (gq (kn rs))) rs.length K)]) (by
   rw[←KN rs (gq (kn rs))];simp! [ax,aC,ag,ai,jV,gz,gy,id_eq,oq,mq,mn,e3,mv,tz,tq];rfl)]
  let qB:dh (aV (lift rs (gq (kn rs))) rs.length K).length 0=some 0:=by
   unfold dh;rw[yF,if_pos ∅,if_pos ∅];rfl
  let a0:∀P:Nat→Nat→Bool,L2.bp (aV P rs.length K) 0=some (bI (P 0) K):=λP=>uX (m:=0) hp;rw[av (e':=[.al\Row.d∘rs,.fr\bI (λ_=>true) K,.bo\.lst (aV (lift rs (fX (kn rs))) rs.length K),.bo\.lst (aV (f7 (lift rs (gq (kn rs))) 0 λj=>lift rs (gq (kn rs)) 0 j||lift rs (fX (kn rs)) 0 j) rs.length K)]) (by
   simp! [fD,ae,jV,jC,gz,gy,id_eq,oq,cZ,a0,oy,pf,OU,lj,iq,if_true,dZ,own,qB,Ml,tz,tq])]
  simp! [aF,aC,ag,ai,jV,gz,gy,id_eq,oq,mq,mn,e4,e6,uO]
 ·refine si.sd (λn j=>f9 rs j n) (λn j hn hj h=>?_) (λn m j hn hm hj h hp=>?_) n j hn hj h
  ·let hr:rs[n]?=some (rs[n]'hn):=by simp
   by_cases z:n=0
   ·let e:f7 (lift rs (gq (kn rs))) 0 (λj=>lift rs (gq (kn rs)) 0 j||lift rs (fX (kn rs)) 0 j) n j=(lift rs (gq (kn rs)) n j||lift rs (fX (kn rs)) n j):=by unfold f7;rw[if_pos z,z]
    rw[e,k8 hr,k8 hr,Bool.or_eq_true]at h;rcases h with h|h
    ·exact .chg hr h
    ·exact .start hr z h
   ·let e:f7 (lift rs (gq (kn rs))) 0 (λj=>lift rs (gq (kn rs)) 0 j||lift rs (fX (kn rs)) 0 j) n j=lift rs (gq (kn rs)) n j:=by unfold f7;rw[if_neg z]
    rw[e,k8 hr]at h;exact .chg hr h
  ·let hs:=qM g (KP hm).2;let⟨_,_,_,hmN⟩:=id hs;let hr:rs[m]?=some (rs[m]'hmN):=by simp
   rw[k8 hr]at hp;exact .step hr hp hs h
 ·induction h with
  |@chg n r hr hd =>
   refine si.up n j hn hj ?_;unfold f7;split
   ·rename_i z;subst z;show(lift rs (gq (kn rs)) 0 j||lift rs (fX (kn rs)) 0 j)=true;rw[k8 hr,hd];rfl
   ·rw[k8 hr];exact hd
  |@start n r hr hz hd =>
   refine si.up n j hn hj ?_;unfold f7;rw[if_pos hz];subst hz;show(lift rs (gq (kn rs)) 0 j||lift rs (fX (kn rs)) 0 j)=true;rw[k8 hr,k8 hr,hd,Bool.or_true]
  |@step n m r hr hp hs _ ih =>
   let⟨rn,hrn,_⟩:=id hs;let lL:=(a9.mp hrn).1;exact cl n lL m (by rw[Mq rs lL];exact C9 hs) j hj (ih lL) (by rw[k8 hr];exact hp)
abbrev pK(q:Int×Int):List Key:=[.inl q.1,.inl q.2]
def uY(q:Int×Int):mO (ck q)=some (pK q):=rfl
def cR(l:List (Int×Int))(f:Int→D):List (List Key×D):=l.foldl (λd q=>putD d (pK q) (f q.1)) []
def KQ(l:List (Int×Int))(q:Int×Int)(f:Int→D):cR (l++[q]) f=putD (cR l f) (pK q) (f q.1):=by
 unfold cR;rw[List.foldl_append];rfl
theorem Mr(f:Int→D)(l:List (Int×Int)):∀i,(cR (l.take i) f).length≤i
 |0=>by simp[cR]
 |i+1=>by
  let ih:=Mr f l i;cases h:l[i]? with
  |none=>rw[jF,h];simp;omega
  |some q =>
   rw[jF,h,oi,KQ];have:=KC (cR (l.take i) f) (pK q) (f q.1);omega
abbrev HK:List Key→Int
 |[.inl m,_]=>m
 |_=>0
def YL{f:Int→D}(l:List (Int×Int)):∀kv∈cR l f,kv.2=f (HK kv.1):=by
 let go:∀(l:List (Int×Int)) (acc:List (List Key×D)),(∀kv∈acc,kv.2=f (HK kv.1))→∀kv∈l.foldl (λd q=>putD d (pK q) (f q.1)) acc,kv.2=f (HK kv.1):=by
  intro l
  induction l with
  |nil=>intro acc h;exact h
  |cons q l ih =>
   intro acc h;rw[List.foldl_cons];refine ih _ λkv fB=>?_;rcases KD fB with⟨z,_⟩|rfl
   ·exact h kv z
   ·rfl
 exact go l [] (λkv h=>nomatch h)
def YM{rs:List Row}{k:Nat}{q:Int×Int}(h:q∈aJ rs k):q.1=-1∨(0≤q.1∧q.1<k):=by
 unfold aJ at h;rcases dN.mp h with rfl|h
 ·exact .inl rfl
 ·let⟨n,hn,hm⟩:=F7.mp h;let⟨m,jL,rfl⟩:=bP.mp hm;have:=iC.mp hn;exact .inr (by simp;omega)
def nD{l:List (Int×Int)}{i:Nat}{d:D}(h:(aT l)[i]?=some d):∃q,l[i]?=some q∧d=ck q:=by
 unfold aT at h;rw[cA]at h;cases e:l[i]? with
 |none=>rw[e]at h;cases h
 |some r=>rw[e]at h;cases h;exact⟨r,rfl,rfl⟩
def p0(m n:M)(q:Int×Int):au (m,ck q) (n,.int 0)=some (bf m,.int q.1):=rfl
def YN{P:Nat→Nat→Bool}{N K:Nat}{m:Int}(h0:0≤m)(h1:m<N):L2.bp (aV P N K) m=some (bI (P m.toNat) K):=by
 have:=uX (P:=P) (N:=N) (K:=K) (m:=m.toNat) ∅;rw[vR h0]at this;exact this
abbrev cC(P:Nat→Nat→Bool)(K:Nat)(n:Int):D:=if n=-1 then .int 0 else bI (λj=>true&&!P n.toNat j) K
def Ui{rs:List Row}(g:Good rs)(hl:rs.length≤300):∃P:Nat→Nat→Bool,uc [Row.d∘rs]=.un\.dt (cR (aJ rs rs.length) (cC P (kn rs).length))∧∀n j,n<rs.length→j<(kn rs).length→(P n j=true↔f9 rs j n):=by
 let hk:=rG rs;let e1:=KH (rs:=rs) ∅;let⟨P,e2,hP⟩:=YK g hl;let e3:=Vn (rs:=rs) ∅;refine⟨P,?_,hP⟩;let mW:=uJ rs rs.length;let⟨e',l1,o4,he⟩:=du (g:=gN 4) (b:=xR) (m:=.fr) (ds:=aT (aJ rs rs.length)) (e:=[.al\Row.d∘rs,.fr\bI (λ_=>true) (kn rs).length,.bo\.lst (aV P rs.length (kn rs).length),.bo\.dt [],none])
  (λi e=>∃o4,e=[.al\Row.d∘rs,.fr\bI (λ_=>true) (kn rs).length,.bo\.lst (aV P rs.length (kn rs).length),.bo\.dt (cR ((aJ rs rs.length).take i) (cC P (kn rs).length)),o4]) ⟨none,rfl⟩
  (λi d e hd bu=>by
   let⟨o4,he⟩:=bu;subst he;let⟨q,hq,rfl⟩:=nD hd;let hi:i<(aJ rs rs.length).length:=(a9.mp hq).1;let qE:=YM (dO hq);let Hv:=Mr (cC P (kn rs).length) (aJ rs rs.length) i;let s1:(cR ((aJ rs rs.length).take i) (cC P (kn rs).length)).length<sizeLine:=eD (show _≤700 by omega) (by decide);refine⟨_,[.al\Row.d∘rs,.fr\bI (λ_=>true) (kn rs).length,.bo\.lst (aV P rs.length (kn rs).length),.bo\.dt (cR ((aJ rs rs.length).take (i+1)) (cC P (kn rs).length)),.fr\ck q],rfl,?_,_,rfl⟩;show xR [.al\Row.d∘rs,.fr\bI (λ_=>true) (kn rs).length,.bo\.lst (aV P rs.length (kn rs).length),.bo\.dt (cR ((aJ rs rs.length).take i) (cC P (kn rs).length)),.fr\ck q]=_;let hx:(rR (jB (ae aP (ae au (jV 4) (jC (.int 0))) (cj fq (jC (.int 1))))) (jC (.int 0)) (ae gX (jV 1) (cj nV (ae au (jV 2) (ae au (jV 4) (jC (.int 0))))))) [.al\Row.d∘rs,.fr\bI (λ_=>true) (kn rs).length,.bo\.lst (aV P rs.length (kn rs).length),.bo\.dt (cR ((aJ rs rs.length).take i) (cC P (kn rs).length)),.fr\ck q]=some (.fr,cC P (kn rs).length q.1):=by
    simp! [rR,jB,ae,cj,jV,jC,gz,gy,id_eq,oq,p0,lz,iT,bN];unfold cC;by_cases z:q.1=-1
    ·rw[if_pos z,dP z,if_pos rfl]
    ·let⟨q0,q1⟩:=qE.resolve_left z;rw[if_neg z,eQ z,if_neg bx];simp! [cZ,YN q0 q1,oy,pf,oq];exact NR
   let hs:cY .fr (cC P (kn rs).length q.1)=true:=rfl;unfold xR;simp! [nL,hx,jV,gz,gy,id_eq,oq,uY,hs,if_true,nX,own,s1,tz,tq];rw[jF,hq,oi,KQ])
 subst he;rw[DH,qb]at l1;unfold uc fn Jg;simp only[cv,bD,bG];rw[av (e':=[.al\Row.d∘rs,.fr\bI (λ_=>true) (kn rs).length,none,none,none]) (by
  simp! [ax,aC,ag,ai,jV,gz,gy,id_eq,oq,mq,mn,e1,mr,tz,tq])]
 rw[av (e':=[.al\Row.d∘rs,.fr\bI (λ_=>true) (kn rs).length,.bo\.lst (aV P rs.length (kn rs).length),none,none]) (by
  simp! [ax,aC,ag,ai,jV,gz,gy,id_eq,oq,mq,mn,e2,mv,tz,tq])]
 rw[av (e':=[.al\Row.d∘rs,.fr\bI (λ_=>true) (kn rs).length,.bo\.lst (aV P rs.length (kn rs).length),.bo\.dt [],none]) rfl];rw[av (e':=[.al\Row.d∘rs,.fr\bI (λ_=>true) (kn rs).length,.bo\.lst (aV P rs.length (kn rs).length),.bo\.dt (cR (aJ rs rs.length) (cC P (kn rs).length)),o4]) (by
  simp! [aU,bK,aC,ag,ai,jV,gz,gy,id_eq,oq,mq,mn,e3,cf,oy];exact l1)]
 rfl
def abk(a b:Ko):PyData.eqv (toPy (kD a)) (toPy (kD b))=decide (a=b):=by
 cases a<;>cases b<;>simp[kD,toPy,PyData.eqv]<;>(rw[kh];simp)
def yZ(p q:De):PyData.eqv (toPy (ao p)) (toPy (ao q))=decide (p=q):=by
 let⟨s,a,b⟩:=p;let⟨s',a',b'⟩:=q;simp only[ao,toPy,dw,PyData.eqv,PyData.eqvAll,abk];by_cases h1:s=s'<;>by_cases h2:a=a'<;>by_cases h3:b=b'<;>simp[h1,h2,h3]
def uC(q:De):J.plain (ao q)=true:=by
 let k:∀a:Ko,J.plain (kD a)=true:=λa=>by cases a<;>simp[kD,J.plain]
 simp[ao,J.plain,J.fK,k]
def yo(q:De):(toPy (ao q)).depth≤10:=by
 let k:∀a:Ko,(toPy (kD a)).depth=0:=λa=>by cases a<;>simp[kD,toPy,PyData.depth]
 simp[ao,toPy,dw,PyData.depth,PyData.depthAll,k]
theorem yc:∀ds:Qzz,dw ds=ds.map toPy
 |[]=>rfl
 |d::ds=>by rw[dw,yc ds];rfl
def Ew(m:M)(x s:Str)(a b:Ko):iL (m,Row.d (.rk x s a b)) (some 2) none=some (bf m,ao (s,a,b)):=rfl
def D4(r:Row)(q:De):oS [r.d,ao q]=some (.fr,.bl (decide (b9 r=some q))):=by
 unfold oS fn JW;symm;simp! [gS,oq,gw,iu,bN,Fx];cases r with
 |rk x s a b =>
  let ok:j7 (ao (s,a,b)) (ao q)=true:=by
   let h1:=yo q;let h2:=yo (s,a,b);let hl:pw (ao (s,a,b)) (ao q)=true:=rfl;simp only[j7,uC,hl,Bool.and_self,Bool.true_and];exact dP ∅
  simp! [b9,Option.isSome_some,if_true,Ew,gw,oq,gB,ok,yZ,uN,Option.some.injEq]
 |_=>simp[b9,out]
def aek(r:Row):eE (.str r.word) [.str "reckon",.str "copy"]=(sets r).isSome:=by
 cases r with
 |rk x s a b=>exact(by decide +kernel:eE (.str ("reckon" : Str)) [.str "reckon",.str "copy"]=true)
 |cp x a=>exact(by decide +kernel:eE (.str ("copy" : Str)) [.str "reckon",.str "copy"]=true)
 |sy a=>exact(by decide +kernel:eE (.str ("say" : Str)) [.str "reckon",.str "copy"]=false)
 |go t=>exact(by decide +kernel:eE (.str ("go" : Str)) [.str "reckon",.str "copy"]=false)
 |pt a t=>exact(by decide +kernel:eE (.str ("part" : Str)) [.str "reckon",.str "copy"]=false)
 |en=>exact(by decide +kernel:eE (.str ("end" : Str)) [.str "reckon",.str "copy"]=false)
def ado(m n:M)(r:Row):ft false (m,.str r.word) (n,.tup [.str "reckon",.str "copy"])=some (.fr,.bl (sets r).isSome):=by
 rw[←aek r];rfl
def ael(x y:Str):(y==x)=decide (x=y):=by
 rw[kh,F8,beq_iff_eq];exact eq_comm
def OW(m n:M)(x:Str)(a b:Ko):ft false (m,.str x) (n,.tup [kD a,kD b])=some (.fr,.bl (isNm a x||isNm b x)):=by
 cases a<;>cases b<;>simp[ft,gQ,zL,pO,kD,eE,isNm,kH,ael]
def Fz(m:M)(q:De):iL (m,ao q) (some 1) none=some (bf m,.tup [kD q.2.1,kD q.2.2]):=rfl
def DC(r:Row)(q:De):tR [r.d,ao q]=some (.fr,.bl (dD (sets r) q)):=by
 unfold tR fn Ih;simp! [aF,gM,ae,aY,ag,ai,gR,gx,iz,jV,jC,mq,mn,List.length_cons,List.length_nil,List.replicate,List.cons_append,List.nil_append,Nat.reduceAdd,Nat.sub_self,List.append_nil,gz,gy,id_eq,oq,gS,gw];rw[show ly [(M.fr,D.str "reckon"),(.fr,.str "copy")]=some (.fr,.tup [.str "reckon",.str "copy"])from rfl,oq,ado,oq];simp! [bN,lj,oq,Fz,gw];cases r with
 |rk x s a b =>
  rw[show au (.al,Row.d (.rk x s a b)) (.fr,.int 1)=some (.al,.str x)from rfl];simp! [sets,Option.isSome_some,if_true,oq,oy,Fz,gw,OW,uN,dD]
 |cp x a =>
  rw[show au (.al,Row.d (.cp x a)) (.fr,.int 1)=some (.al,.str x)from rfl];simp! [sets,Option.isSome_some,if_true,oq,oy,Fz,gw,OW,uN,dD]
 |_=>simp[sets,out,dD]
def abl{m n:M}(q:De)(l:List De):pR true (m,ao q) (n,ao∘l)=some (.fr,.bl (!decide (q∈l))):=by
 let h1:J.fK (l.map ao)=true:=uf λd hd=>by let⟨x,_,rfl⟩:=bP.mp hd;exact uC x
 let h2:=yo q;let h3:(toPy (ao q)).depth≤50:=by omega
 simp only[pR,uC,h1,h3,and_self,if_true,yc,List.any_map];congr 4;rw[kh,qd,F8];constructor
 ·rintro⟨y,hy,e⟩;let e':PyData.eqv (toPy (ao y)) (toPy (ao q))=true:=e;rw[yZ,F8]at e';rw[←e'];exact hy
 ·intro hq;exact⟨q,hq,by show PyData.eqv (toPy (ao q)) (toPy (ao q))=true;rw[yZ];simp⟩
def YQ{r:Row}{l:List De}(hl:l.length≤500)(A0:Qzq):xO [A0,.bo\ao∘l,.al\r.d]=some (.nx [A0,.bo\.lst ((kR l r).map ao),.al\r.d]):=by
 let s1:l.length<sizeLine:=eD hl (by decide);let c1:(jB (ae aP (ae au (jV 2) (jC (.int 0))) (jC (.str "reckon")))) [A0,.bo\ao∘l,.al\r.d]=some (b9 r).isSome:=by
  simp! [jB,ae,jV,jC,gz,gy,id_eq,oq,gS,iu,bN,Fx]
 unfold xO;unfold kR;cases r with
 |rk x s a b =>
  let c2:(cP (jB (ae aP (ae au (jV 2) (jC (.int 0))) (jC (.str "reckon")))) (jB (ae (pR true) (gR iL (jV 2) (gx (jC (.int 2))) iz) (jV 1)))) [A0,.bo\ao∘l,.al\Row.d (.rk x s a b)]=some (!decide ((s,a,b)∈l)):=by
   unfold cP;rw[c1,show(some (b9 (.rk x s a b)).isSome:Option Bool)=some true from rfl,oq,if_pos rfl];simp! [jB,ae,gR,gx,iz,jV,jC,gz,gy,id_eq,oq,lj,oy,Ew,abl,bN]
  by_cases hm:(s,a,b)∈l
  ·rw[bE (by rw[c2,dP hm];rfl)];simp only[b9,if_pos hm];rfl
  ·rw[bF (by rw[c2,eQ hm];rfl)];simp only[b9,if_neg hm];simp! [cE,gR,gx,iz,jV,jC,gz,gy,id_eq,oq,lj,oy,Ew,gw,uQ,aa3,if_true,dZ,own,ln,s1,tz,tq,List.map_append,mq,mn]
 |_ =>
  rw[bE (by unfold cP;rw[c1];rfl)];rfl
def WT{rs:List Row}(hl:rs.length≤400):x4 [Row.d∘rs]=some (.un,.lst ((kn rs).map ao)):=by
 let⟨e',l1,o2,he⟩:=du (g:=gN 2) (b:=xO) (m:=.al) (ds:=rs.map Row.d) (e:=[.al\Row.d∘rs,.bo\.lst ([].map ao),none])
  (λi e=>∃o2,e=[.al\Row.d∘rs,.bo\.lst ((kn (rs.take i)).map ao),o2]) ⟨none,rfl⟩
  (λi d e hd bu=>by
   let⟨o2,he⟩:=bu;subst he;let⟨r,hr,rfl⟩:=DN hd;let hi:i<rs.length:=(a9.mp hr).1;let Cr:=yX rs i;let q:=YQ (r:=r) (l:=kn (rs.take i)) ∅ (.al\Row.d∘rs);rw[←qR rs i r hr]at q;exact⟨_,_,rfl,q,_,rfl⟩)
 subst he;rw[ln,w9]at l1;unfold x4 fn IK;simp only[cv,bD,bG];rw[av (e':=[.al\Row.d∘rs,.bo\.lst ([].map ao),none]) rfl];rw[av (e':=[.al\Row.d∘rs,.bo\.lst ((kn rs).map ao),o2]) (by
  rw[bT,show aZ 0 [.al\Row.d∘rs,.bo\.lst ([].map ao),none]=[.al\Row.d∘rs,.bo\.lst ([].map ao),none] from rfl];simp! [aU,bK,jV,gz,gy,id_eq,oq,cf,oy];exact l1)]
 rfl
theorem NW{A0:Qzq}{n:Int}:∀(ms:Qxk) (l:List (Int×Int)) (o3:Qzq),l.length+ms.length≤5000→∃fV,forL (gN 3) xG .fr (ms.map D.int) [A0,.bo\.lst (aT l),.fr\.int n,o3]=some (.nx [A0,.bo\.lst (aT (l++ms.map λm=>(n,m))),.fr\.int n,fV])
 |[],l,o3,_=>⟨o3,by simp[forL]⟩
 |m::ms,l,o3,hl=>by
  rw[gf]at hl;let⟨fV,q⟩:=NW (A0:=A0) (n:=n) ms (l++[(n,m)]) (.fr\.int m) (by rw[fw];simp only[List.length_cons,List.length_nil];omega);refine⟨fV,?_⟩;let hs:l.length<sizeLine:=eD (show l.length≤5000 by omega) (by decide);rw[mq,forL,show gN 3 (M.fr,D.int m) [A0,.bo\.lst (aT l),.fr\.int n,o3]=some [A0,.bo\.lst (aT l),.fr\.int n,.fr\.int m] from rfl,oq];let hb:xG [A0,.bo\.lst (aT l),.fr\.int n,.fr\.int m]=some (.nx [A0,.bo\.lst (aT (l++[(n,m)])),.fr\.int n,.fr\.int m]):=by
   unfold xG;symm;rw[DH,if_pos hs,Ky]
  rw[hb,oq];simpa using q
def abm{rs:List Row}(hl:rs.length≤800):xU [Row.d∘rs]=some (.un,.lst (aT (aJ rs rs.length))):=by
 let cQ:-4611686018427387904≤(rs.length:Int)∧(rs.length:Int)<4611686018427387904:=by omega
 let ht:(rs.length:Int).toNat=rs.length:=by omega
 let⟨e',l1,o2,o3,he⟩:=du (g:=gN 2) (b:=xH) (m:=.fr) (ds:=cu 0 rs.length) (e:=[.al\Row.d∘rs,.bo\.lst (aT (aJ rs 0)),none,none])
  (λi e=>∃(o2 o3:Qzq),e=[.al\Row.d∘rs,.bo\.lst (aT (aJ rs i)),o2,o3])
  ⟨none,none,rfl⟩
  (λi d e hd bu=>by
   let⟨o2,o3,he⟩:=bu;subst he;let⟨hi,rfl⟩:=mB hd;rw[show(0:Int)+(i:Int)=(i:Int) by omega];let h1:=uJ rs i;let h2:=Dc rs i;let hr:rs[i]?=some (rs[i]'hi):=by simp
   let ef:=DG rs i _ hr;let er:bA i (rs[i]'hi)=cF rs i:=by unfold cF;rw[hr]
   rw[er]at ef;let⟨fV,q⟩:=NW (A0:=.al\Row.d∘rs) (n:=(i:Int)) (cF rs i) (aJ rs i) o3 ∅;refine⟨_,[.al\Row.d∘rs,.bo\.lst (aT (aJ rs (i+1))),.fr\↥i,fV],rfl,?_,_,_,rfl⟩;show xH [.al\Row.d∘rs,.bo\.lst (aT (aJ rs i)),.fr\↥i,o3]=_;unfold xH;simp! [aU,bK,aC,ag,ai,jV,gz,gy,id_eq,oq,mq,mn,ef,cf,oy];rw[oW];exact q)
 subst he;rw[k6]at l1;unfold xU fn Iq;simp only[cv,bD,bG];rw[av (e':=[.al\Row.d∘rs,.bo\.lst (aT (aJ rs 0)),none,none]) rfl];rw[av (e':=[.al\Row.d∘rs,.bo\.lst (aT (aJ rs rs.length)),o2,o3]) (by
  simp! [aU,cq,aL,ag,ai,jV,gz,gy,id_eq,oq,dE,ln,cQ,and_self,if_true,ht];exact l1)]
 rfl
def NX{m n:M}{i:Int}:lu (m,.int i) (n,.non)=some (.fr,.bl true):=rfl
def abn{m n:M}:lu (m,.non) (n,.non)=some (.fr,.bl false):=rfl
abbrev pD:Option Nat→D
 |none=>.non
 |some p=>↥p
abbrev bw(ks:List (Nat×Option Nat)):List (Key×D):=ks.map λq=>(.inl (q.1:Int),pD q.2)
abbrev bB(ks:List (Nat×Option Nat)):Qxj:=ks.map (·.1)
def kx{ks:List (Nat×Option Nat)}(h:(bB ks).Nodup){i j n:Nat}{p q:Option Nat}(hi:ks[i]?=some (n,p))(hj:ks[j]?=some (n,q)):i=j:=by
 let e1:(bB ks)[i]?=some n:=by simp[bB,hi]
 let e2:(bB ks)[j]?=some n:=by simp[bB,hj]
 exact(List.getElem?_inj (a9.mp e1).1 h).mp (e1.trans e2.symm)
def D8{ks:List (Nat×Option Nat)}{n:Nat}:(∃kv∈bw ks,kv.1=.inl (n:Int))↔n∈bB ks:=by
 constructor
 ·rintro⟨kv,hk,e⟩;let⟨q,hq,rfl⟩:=bP.mp hk;exact bP.mpr ⟨q,hq,Int.ofNat_inj.mp (Key.inl.inj e)⟩
 ·intro h;let⟨q,hq,rfl⟩:=bP.mp h;exact⟨_,bP.mpr ⟨q,hq,rfl⟩,rfl⟩
def OX{ks:List (Nat×Option Nat)}{n:Nat}:(dz (bw ks) (.inl (n:Int))).isSome=decide (n∈bB ks):=by
 rw[kh,IL,D8,decide_eq_true_iff]
def YR{ks:List (Nat×Option Nat)}{i n:Nat}{p:Option Nat}(hn:(bB ks).Nodup)(h:ks[i]?=some (n,p)):dz (bw ks) (.inl (n:Int))=some (pD p):=by
 refine yd (λkv hk e=>?_) (D8.mpr (bP.mpr ⟨_,dO h,rfl⟩));let⟨⟨q1,q2⟩,hq,rfl⟩:=bP.mp hk;let⟨j,hj⟩:=List.mem_iff_getElem?.mp hq;obtain rfl:q1=n:=Int.ofNat_inj.mp (Key.inl.inj e);obtain rfl:=kx hn hj h;rw[hj]at h;cases h;rfl
def abo{ks:List (Nat×Option Nat)}{n:Nat}{p:Nat}(h:n∉bB ks):putD (bw ks) (.inl (n:Int)) (↥p)=bw (ks++[(n,some p)]):=by
 rw[yn λkv hk e=>h (D8.mp ⟨kv,hk,e⟩)];simp only[bw,List.map_append,mq,mn,pD]
structure TI (N:Nat)(R:Nat→Nat→Prop)(st:Nat)(ks:List (Nat×Option Nat)):Prop where
 hd:ks[0]?=some (st,none)
 nd:(bB ks).Nodup
 lt:∀x∈bB ks,x<N
 par:∀(i:Nat) n p,ks[i]?=some (n,p)→(p=none∧n=st)∨∃q j p',p=some q∧j<i∧ks[j]?=some (q,p')∧R q n
section
variable {N:Nat}{R:Nat→Nat→Prop}{st:Nat}
def TI.one(h:st<N):TI N R st [(st,none)]:=by
 refine⟨rfl,by simp[bB],λx hx=>?_,λi n p hi=>?_⟩
 ·have:x=st:=by simpa[bB]using hx
  omega
 ·cases i with
  |zero=>simp at hi;exact .inl ⟨hi.2.symm,hi.1.symm⟩
  |succ i=>simp at hi
def k9(a b:List (Nat×Option Nat)):bB (a++b)=bB a++bB b:=by simp[bB]
def TI.add{n m:Nat}{ks:List (Nat×Option Nat)}(h:TI N R st ks)(hn:n∈bB ks)(hs:R n m)(hN:m<N)(hm:m∉bB ks):TI N R st (ks++[(m,some n)]):=by
 let nW:0<ks.length:=(a9.mp h.hd).1;refine⟨?_,?_,λx hx=>?_,λi n' p hi=>?_⟩
 ·rw[p8 nW];exact h.hd
 ·rw[k9,sv];refine⟨h.nd,by simp[bB],λa ha b hb=>?_⟩;have:b=m:=by simpa[bB]using hb
  subst this;exactλe=>hm (e▸ha)
 ·rw[k9]at hx;rcases iD.mp hx with z|z
  ·exact h.lt x z
  ·have:x=m:=by simpa[bB]using z
   omega
 ·rw[List.getElem?_append]at hi;split at hi
  ·rcases h.par i n' p hi with z|⟨q,j,p',h1,h2,h3,h4⟩
   ·exact .inl z
   ·exact .inr ⟨q,j,p',h1,h2,by rw[p8 (a9.mp h3).1];exact h3,h4⟩
  ·let G6:i-ks.length=0:=by
    rcases Nat.eq_zero_or_pos (i-ks.length)with z|z
    ·exact z
    ·rw[og (by simp;omega)]at hi;cases hi
   rw[G6]at hi;simp at hi;let⟨rfl,rfl⟩:=hi;let⟨⟨q1,q2⟩,hq,qE⟩:=bP.mp hn;let⟨j,hj⟩:=List.mem_iff_getElem?.mp hq;simp at qE;subst qE;let hjl:=(a9.mp hj).1;exact .inr ⟨q1,j,q2,rfl,by omega,by rw[p8 hjl];exact hj,hs⟩
def TI.len{ks:List (Nat×Option Nat)}(h:TI N R st ks):ks.length≤N:=by
 have:=oT N (bB ks) h.nd h.lt;simpa[bB]using this
def Ms(l:Qxj):(ak l).reverse=ak l.reverse:=by simp[ak,List.map_reverse]
abbrev oJ(R:Nat→Nat→Prop):Qxj→Prop
 |[]=>True
 |[_]=>True
 |a::b::t=>R a b∧oJ R (b::t)
def Bh(ks:List (Nat×Option Nat))(j:Nat)(l:Qxj):Prop:=l.Nodup∧∀y∈l,∃i p,j<i∧ks[i]?=some (y,p)
def Bh.cons{ks:List (Nat×Option Nat)}(hn:(bB ks).Nodup){j x:Nat}{p:Option Nat}{l:Qxj}(h:Bh ks j l)(hj:ks[j]?=some (x,p)):(x::l).Nodup∧∀j',j'<j→Bh ks j' (x::l):=by
 let nd:(x::l).Nodup:=kj.mpr ⟨λhx=>by
  let⟨i,q,hi,e⟩:=h.2 x hx;exact absurd (kx hn hj e) ∅,h.1⟩
 refine⟨nd,λj' sY=>⟨nd,λy hy=>?_⟩⟩;rcases dN.mp hy with rfl|hy
 ·exact⟨j,p,sY,hj⟩
 ·let⟨i,q,hi,e⟩:=h.2 y hy;exact⟨i,q,by omega,e⟩
def Uj{ks:List (Nat×Option Nat)}(h:TI N R st ks)(hl:N≤900){i n:Nat}{p:Option Nat}(hi:ks[i]?=some (n,p)) :
  ∃l:Qxj,x6 [.dk (bw ks),↥n]=.un\⇑l∧oJ R l∧l.head?=some st∧l.getLast?=some n∧l.Nodup:=by
 let hks:=h.len;let GP:i<ks.length:=(a9.mp hi).1;let wh:=Dh (c:=tS) (b:=CG) (e:=[.al\.dk (bw ks),.al\↥n,.bo\.lst []]) (n:=i+2)
  (λk e=>∃(l:Qxj) (o:D),e=[.al\.dk (bw ks),.al\o,.bo\.lst (ak l.reverse)]∧k+l.length=i+2∧oJ R l∧(l=[]∨l.getLast?=some n)∧l.Nodup ∧
   ((∃j x p',o=.int ((x:Nat):Int)∧ks[j]?=some (x,p')∧l.length+j≤i∧Bh ks j l∧((l=[]∧x=n)∨∃y t,l=y::t∧R x y))∨(o=.non∧l.head?=some st)))
  (λ_ _=>False)
  (λk e ⟨l,o,he,hk,hp,vj,iG,fI⟩=>by
   subst he;rcases fI with⟨j,x,p',rfl,hj,hlen,hb,hx⟩|⟨rfl,h1⟩
   ·refine .inr ⟨?_,.inl ?_⟩
    ·unfold tS;symm;rw[NX];symm
    ·let hv:=YR h.nd hj;let hlx:l.length<sizeLine:=eD (show l.length≤900 by omega) (by decide);let⟨b1,b2⟩:=hb.cons h.nd hj;refine⟨[.al\.dk (bw ks),.al\pD p',.bo\.lst (ak (x::l).reverse)],k-1,.inl ?_,⟨x::l,pD p',rfl,by simp only[List.length_cons];omega,?_,.inr ?_,b1,?_⟩,by omega⟩
     ·unfold CG;symm;rw[if_pos (by rw[dW,List.length_reverse];exact hlx)];symm;simp! [pA,jV,j9,keyOf,gz,gy,id_eq,oq,hv,gw,Lp,uB,List.reverse_cons,tz,tq]
     ·rcases hx with⟨rfl,_⟩|⟨y,t,rfl,hs⟩
      ·trivial
      ·exact⟨hs,hp⟩
     ·rcases hx with⟨rfl,rfl⟩|⟨y,t,rfl,hs⟩
      ·rfl
      ·rcases vj with z|z
       ·cases z
       ·rw[List.getLast?_cons_cons];exact z
     ·rcases h.par j x p' hj with⟨rfl,rfl⟩|⟨q,j',p2,rfl,sY,hq,hs⟩
      ·exact .inr ⟨rfl,rfl⟩
      ·exact .inl ⟨j',q,p2,rfl,hq,by simp only[List.length_cons];omega,b2 j' sY,.inr ⟨x,l,rfl,hs⟩⟩
   ·refine .inl ?_;unfold tS
    ac_rfl)
  ⟨[],_,rfl,by simp,trivial,.inl rfl,sr,.inl ⟨i,n,p,rfl,hi,by simp,⟨sr,λy hy=>nomatch hy⟩,.inl ⟨rfl,rfl⟩⟩⟩
 rcases wh with⟨e',n',l1,⟨l,o,he,_,hp,vj,iG,fI⟩,hc⟩|⟨_,_,_,_,z⟩
 ·subst he;rcases fI with⟨j,x,p',rfl,hj,hlen,_,hx⟩|⟨rfl,h1⟩
  ·unfold tS at hc;simp! [jB,ae,jV,jC,gz,gy,id_eq,oq,NX,bN]at hc;cases hc
  ·refine⟨l,?_,hp,h1,?_,iG⟩
   ·unfold x6 fn Jf;simp only[cv,bD,bG];rw[av (e':=[.al\.dk (bw ks),.al\↥n,.bo\.lst []]) (by ac_rfl),av l1];simp! [aq,rV,aF,jV,dZ,own,gz,gy,tz,tq,if_true,oq,id_eq,Ms,List.reverse_reverse,uP]
   ·rcases vj with rfl|z
    ·cases h1
    ·exact z
 ·exact z.elim
end
def RS(S:List (Qxj))(bs gs:List Bool)(n m:Nat):Prop:=m∈S.getD n []∧bs.getD m false=false∧gs.getD n false=false
def abp{S:List (Qxj)}{n:Nat}(h:n<S.length):L2.bp (bz S) (n:Int)=some (.lst (ak (S.getD n []))):=by
 rw[J.ml (by simpa[bz]using h)];simp[bz,h]
def DQ{gs:List Bool}{n:Nat}(h:n<gs.length):L2.bp (gs.map D.bl) (n:Int)=some (.bl (gs.getD n false)):=by
 rw[J.ml (by simpa using h),As,ko,dC h];rfl
theorem D9:∀ks:List (Nat×Option Nat),D.cO ((bw ks).map (·.2))=true
  |[]=>by simp only[bw,mn,D.cO]
  | (a,p)::ks=>by
    show D.cO (pD p::(bw ks).map (·.2))=true;rw[V9,D9 ks];cases p<;>simp[pD,D.cB]
def Found(R:Nat→Nat→Prop)(st:Nat)(gs:List Bool)(l:Qxj):Prop:=oJ R l∧l.head?=some st∧(∃x,l.getLast?=some x∧gs.getD x false=true)∧l.Nodup
section
variable {N:Nat}{S:List (Qxj)}{bs gs:List Bool}{st:Nat}
theorem Di(hN:N≤800)(hb:bs.length=N){n:Nat}(xg:gs.getD n false=false){S' L:D}:∀(ms:Qxj) {ks:List (Nat×Option Nat)}{fs:Qxj}{o:Qzq},(∀m∈ms,m∈S.getD n []∧m<N)→TI N (RS S bs gs) st ks→n∈bB ks→fs.length≤ks.length →
  ∃new o',forL (gN 6) qG .al (ak ms) [.al\S',.al\L,.al\.bl∘bs,.bi\.dk (bw ks),.bo\⇑fs,.al\↥n,o]=some (.nx [.al\S',.al\L,.al\.bl∘bs,.bi\.dk (bw (ks++new)),.bo\.lst (ak (fs++bB new)),.al\↥n,o'])∧TI N (RS S bs gs) st (ks++new)∧∀m∈ms,bs.getD m false=false→m∈bB (ks++new)
 |[],ks,fs,o,_,h,_,_=>⟨[],o,by simp[ak,forL,bB],by simpa using h,λm hm=>nomatch hm⟩
 |m::ms,ks,fs,o,hs,h,hn,hf=>by
  let Cr:=h.len;let⟨wo,kM⟩:=hs m cg;let hg:=DQ (gs:=bs) (n:=m) ∅;let m8:∀x∈ms,x∈S.getD n []∧x<N:=λx hx=>hs x (c9 _ hx);by_cases hm:m∉bB ks∧bs.getD m false=false
  ·let⟨new,o',q1,q2,q3⟩:=Di hN hb (n:=n) xg (S':=S') (L:=L) ms (ks:=ks++[(m,some n)]) (fs:=fs++[m]) (o:=.al\↥m) m8 (h.add hn ⟨wo,hm.2,xg⟩ kM hm.1) (by rw[k9];exact jA _ hn) (by simp;omega);let s1:ks.length<sizeLine:=eD (show ks.length≤800 by omega) (by decide);let s2:fs.length<sizeLine:=eD (show fs.length≤800 by omega) (by decide);let tF:(bw ks).length=ks.length:=by simp[bw]
   refine⟨(m,some n)::new,o',?_,by rw[List.append_assoc]at q2;exact q2,λx hx Cv=>?_⟩
   ·rw[show ak (m::ms)=↥m::ak ms from rfl,forL];let hb:qG [.al\S',.al\L,.al\.bl∘bs,.bi\.dk (bw ks),.bo\⇑fs,.al\↥n,.al\↥m]=some (.nx [.al\S',.al\L,.al\.bl∘bs,.bi\.dk (bw (ks++[(m,some n)])),.bo\.lst (ak (fs++[m])),.al\↥n,.al\↥m]):=by
     unfold qG;simp! [aM,cP,eO,jB,ae,f6,jV,j9,keyOf,gz,gy,id_eq,oq,OX,hm.1,hm.2,decide_false,Bool.not_false,if_true,bN,cZ,hg,oy,gw,aq,lA,uQ,pP,mN,own,tF,s1,abo hm.1,tz,tq,cE,dZ,dW,s2,uB]
    rw[show gN 6 (M.al,↥m) [.al\S',.al\L,.al\.bl∘bs,.bi\.dk (bw ks),.bo\⇑fs,.al\↥n,o]=some [.al\S',.al\L,.al\.bl∘bs,.bi\.dk (bw ks),.bo\⇑fs,.al\↥n,.al\↥m] from rfl,oq,hb,oq];simp only[List.append_assoc,List.singleton_append]at q1;exact q1
   ·rcases dN.mp hx with rfl|hx
    ·simp[bB]
    ·have:=q3 x hx Cv;simpa[bB,List.append_assoc]using this
  ·let⟨new,o',q1,q2,q3⟩:=Di hN hb (n:=n) xg (S':=S') (L:=L) ms (ks:=ks) (fs:=fs) (o:=.al\↥m) m8 h hn hf;refine⟨new,o',?_,q2,λx hx Cv=>?_⟩
   ·rw[show ak (m::ms)=↥m::ak ms from rfl,forL];let hb:qG [.al\S',.al\L,.al\.bl∘bs,.bi\.dk (bw ks),.bo\⇑fs,.al\↥n,.al\↥m]=some (.nx [.al\S',.al\L,.al\.bl∘bs,.bi\.dk (bw ks),.bo\⇑fs,.al\↥n,.al\↥m]):=by
     unfold qG;refine bE ?_;simp! [cP,eO,jB,ae,f6,jV,j9,keyOf,gz,gy,id_eq,oq,OX,if_true,bN,cZ,hg,oy];by_cases hk:m∈bB ks
     ·rw[dP hk];rfl
     ·have:bs.getD m false=true:=by simpa[hk]using hm
      rw[eQ hk,this];rfl
    rw[show gN 6 (M.al,↥m) [.al\S',.al\L,.al\.bl∘bs,.bi\.dk (bw ks),.bo\⇑fs,.al\↥n,o]=some [.al\S',.al\L,.al\.bl∘bs,.bi\.dk (bw ks),.bo\⇑fs,.al\↥n,.al\↥m] from rfl,oq,hb,oq];exact q1
   ·rcases dN.mp hx with rfl|hx
    ·rw[k9];refine jA _ (Decidable.byContradiction λz=>hm ⟨z,Cv⟩)
    ·exact q3 x hx Cv
theorem KR(hN:N≤800)(hS:S.length=N)(hm:∀n,∀m∈S.getD n [],m<N)(hb:bs.length=N){L:D}:∀(ls:Qxj) {ks:List (Nat×Option Nat)}{fs:Qxj}{o5 o6:Qzq},TI N (RS S bs gs) st ks→(∀n∈ls,n∈bB ks∧gs.getD n false=false)→fs.length≤ks.length →
  ∃new dm cw,forL (gN 5) xD .al (ak ls) [.al\.lst (bz S),.al\L,.al\.bl∘bs,.bi\.dk (bw ks),.bo\⇑fs,o5,o6]=some (.nx [.al\.lst (bz S),.al\L,.al\.bl∘bs,.bi\.dk (bw (ks++new)),.bo\.lst (ak (fs++bB new)),dm,cw])∧TI N (RS S bs gs) st (ks++new)∧∀n∈ls,∀m,RS S bs gs n m→m∈bB (ks++new)
 |[],ks,fs,o5,o6,h,_,_=>⟨[],o5,o6,by simp[ak,forL,bB],by simpa using h,λm hm=>nomatch hm⟩
 |n::ls,ks,fs,o5,o6,h,hn,hf=>by
  let⟨xh,xg⟩:=hn n cg;let xa:=h.lt n xh;let⟨new,o',q1,q2,q3⟩:=Di hN hb (n:=n) xg (S':=.lst (bz S)) (L:=L) (S.getD n []) (ks:=ks) (fs:=fs) (o:=o6) (λm jL=>⟨jL,hm n m jL⟩) h xh hf;let⟨aem,dm,cw,p1,p2,p3⟩:=KR hN hS hm hb (L:=L) ls (ks:=ks++new) (fs:=fs++bB new) (o5:=.al\↥n) (o6:=o') q2 (λx hx=>by
   let⟨z1,z2⟩:=hn x (c9 _ hx);rw[k9];exact⟨jA _ z1,z2⟩) (by simp[bB];omega)
  refine⟨new++aem,dm,cw,?_,by rw[←List.append_assoc];exact p2,λx hx m jL=>?_⟩
  ·rw[show ak (n::ls)=↥n::ak ls from rfl,forL];let hB:xD [.al\.lst (bz S),.al\L,.al\.bl∘bs,.bi\.dk (bw ks),.bo\⇑fs,.al\↥n,o6]=some (.nx [.al\.lst (bz S),.al\L,.al\.bl∘bs,.bi\.dk (bw (ks++new)),.bo\.lst (ak (fs++bB new)),.al\↥n,o']):=by
    unfold xD;simp! [aU,bK,ae,jV,gz,gy,id_eq,oq,cZ,abp (S:=S) (n:=n) ∅,oy,gw,cf];exact q1
   rw[show gN 5 (M.al,↥n) [.al\.lst (bz S),.al\L,.al\.bl∘bs,.bi\.dk (bw ks),.bo\⇑fs,o5,o6]=some [.al\.lst (bz S),.al\L,.al\.bl∘bs,.bi\.dk (bw ks),.bo\⇑fs,.al\↥n,o6] from rfl,oq,hB,oq];rw[k9,←List.append_assoc,←List.append_assoc];exact p1
  ·rw[←List.append_assoc];rcases dN.mp hx with rfl|hx
   ·rw[k9];exact jA _ (q3 m jL.1 jL.2.1)
   ·exact p3 x hx m jL
def YS(hN:N≤800)(hS:S.length=N)(hm:∀n,∀m∈S.getD n [],m<N)(hb:bs.length=N){ls:Qxj}{ks:List (Nat×Option Nat)}(h:TI N (RS S bs gs) st ks)(hn:∀n∈ls,n∈bB ks∧gs.getD n false=false) :
  ∃new,xQ [.lst (bz S),⇑ls,.bl∘bs,.dk (bw ks)]=.un\(.lst (ak (bB new)),[.dk (bw (ks++new))])∧TI N (RS S bs gs) st (ks++new)∧∀n∈ls,∀m,RS S bs gs n m→m∈bB (ks++new):=by
 let⟨new,o5,o6,q1,q2,q3⟩:=KR hN hS hm hb (L:=⇑ls) ls (fs:=[]) (o5:=none) (o6:=none) h hn (by simp);refine⟨new,?_,q2,q3⟩;unfold xQ rX Il;rw[show(jj [3] [D.lst (bz S),⇑ls,.bl∘bs,.dk (bw ks)]++List.replicate (7 - [D.lst (bz S),⇑ls,.bl∘bs,.dk (bw ks)].length) none:Ev)=[.al\.lst (bz S),.al\⇑ls,.al\.bl∘bs,.bi\.dk (bw ks),none,none,none] from rfl];rw[av (e':=[.al\.lst (bz S),.al\⇑ls,.al\.bl∘bs,.bi\.dk (bw ks),.bo\.lst [],none,none]) (by ac_rfl)];rw[av (e':=[.al\.lst (bz S),.al\⇑ls,.al\.bl∘bs,.bi\.dk (bw (ks++new)),.bo\.lst (ak (bB new)),o5,o6]) (by
  rw[bT,show aZ 1 [.al\.lst (bz S),.al\⇑ls,.al\.bl∘bs,.bi\.dk (bw ks),.bo\.lst [],none,none]=[.al\.lst (bz S),.al\⇑ls,.al\.bl∘bs,.bi\.dk (bw ks),.bo\.lst [],none,none] from rfl];simp! [aU,bK,jV,gz,gy,id_eq,oq,cf,oy];exact q1)]
 simp! [aF,jV,gz,gy,id_eq,oq,Oq,out,envOf,J.collect,gk,D9,if_true]
end
section
variable {N:Nat}{S:List (Qxj)}{bs gs:List Bool}{st:Nat}
theorem J4(hN:N≤800){R:Nat→Nat→Prop}(hg:gs.length=N){ks:List (Nat×Option Nat)}(h:TI N R st ks){a0 a1 a3 a5:Qzq}:∀(ls:Qxj) {o6:Qzq},(∀n∈ls,n∈bB ks) →
  ((∀n∈ls,gs.getD n false=false)∧∃o,forL (gN 6) tK .fr (ak ls) [a0,a1,.al\.bl∘gs,a3,.bo\.dk (bw ks),a5,o6]=some (.nx [a0,a1,.al\.bl∘gs,a3,.bo\.dk (bw ks),a5,o])) ∨
  ∃e' l,forL (gN 6) tK .fr (ak ls) [a0,a1,.al\.bl∘gs,a3,.bo\.dk (bw ks),a5,o6]=some (.rt e' .un (⇑l))∧Found R st gs l
 |[],o6,_=>.inl ⟨(λn hn=>nomatch hn),o6,rfl⟩
 |n::ls,o6,hn=>by
  let xh:=hn n cg;let xa:=h.lt n xh;let⟨⟨q1,q2⟩,hq,qE⟩:=bP.mp xh;let⟨j,hj⟩:=List.mem_iff_getElem?.mp hq;simp at qE;subst qE;let⟨l,w1,w2,w3,w4,w5⟩:=Uj h ∅ hj;let e1:gN 6 (M.fr,↥q1) [a0,a1,.al\.bl∘gs,a3,.bo\.dk (bw ks),a5,o6]=some [a0,a1,.al\.bl∘gs,a3,.bo\.dk (bw ks),a5,.fr\↥q1]:=rfl;rw[show ak (q1::ls)=↥q1::ak ls from rfl,forL,e1,oq];let ea:=DQ (gs:=gs) (n:=q1) ∅;let hc:(jB (ae au (jV 2) (jV 6))) [a0,a1,.al\.bl∘gs,a3,.bo\.dk (bw ks),a5,.fr\↥q1]=some (gs.getD q1 false):=by
   ac_rfl
  cases hb:gs.getD q1 false with
  |true =>
   refine .inr ⟨[a0,a1,.al\.bl∘gs,a3,.bo\.dk (bw ks),a5,.fr\↥q1],l,?_,w2,w3,⟨q1,w4,hb⟩,w5⟩;rw[show tK _=_ from bF (hc.trans (de some hb))]
   ac_rfl
  |false =>
   rw[show tK _=_ from bE (hc.trans (de some hb)),show ∀{E:Ev},aR E=some (.nx E)from rfl,oq];rcases J4 hN hg h (a0:=a0) (a1:=a1) (a3:=a3) (a5:=a5) ls (o6:=.fr\↥q1) (λx hx=>hn x (c9 _ hx)) with⟨i1,o,i2⟩|⟨e',l,i1,i2⟩
   ·refine .inl ⟨λx hx=>?_,o,i2⟩;rcases dN.mp hx with rfl|hx
    ·exact hb
    ·exact i1 x hx
   ·exact .inr ⟨e',l,i1,i2⟩
def WU{S L B:D}{ks:List (Nat×Option Nat)}:jJ [3] [4] [(0,0),(1,5),(2,3),(3,4)] [(.al,S),(.fr,L),(.al,B),(.bo,.dk (bw ks))]=true:=by
 simp[jJ,List.range_succ,own,gk,ib,D9]
def TC(R:Nat→Nat→Prop)(st:Nat)(gs:List Bool):Prop:=∃C:Nat→Prop,C st∧(∀n m,C n→R n m→C m)∧∀n,C n→gs.getD n false=false
def WV(hN:N≤800)(hS:S.length=N)(hm:∀n,∀m∈S.getD n [],m<N)(hb:bs.length=N)(hg:gs.length=N)(fI:st<N) :
  (∃l,oN [.lst (bz S),↥st,.bl∘gs,.bl∘bs]=.un\⇑l∧Found (RS S bs gs) st gs l∧bs.getD st false=false) ∨
  (oN [.lst (bz S),↥st,.bl∘gs,.bl∘bs]=.fr\.non∧(bs.getD st false=true∨TC (RS S bs gs) st gs)):=by
 let Qp:(jB (ae au (jV 3) (jV 1))) [.al\.lst (bz S),.al\↥st,.al\.bl∘gs,.al\.bl∘bs,none,none,none]=some (bs.getD st false):=by
  simp! [jB,ae,jV,gz,gy,id_eq,oq,cZ,DQ (gs:=bs) (n:=st) ∅,oy,bN]
 unfold oN fn HZ;simp only[cv,bD,bG];cases hs:bs.getD st false with
 |true =>
  refine .inr ⟨?_,.inl rfl⟩;rw[dJ (by rw[bF (Qp.trans (de some hs))];rfl)];rfl
 |false =>
  rw[fU (Qp.trans (de some hs))];rw[av (e':=[.al\.lst (bz S),.al\↥st,.al\.bl∘gs,.al\.bl∘bs,.bo\.dk (bw [(st,none)]),none,none]) (by
   ac_rfl)]
  rw[av (e':=[.al\.lst (bz S),.al\↥st,.al\.bl∘gs,.al\.bl∘bs,.bo\.dk (bw [(st,none)]),.bo\.lst (ak [st]),none]) rfl];let wh:=Dh (c:=tL) (b:=xo) (e:=[.al\.lst (bz S),.al\↥st,.al\.bl∘gs,.al\.bl∘bs,.bo\.dk (bw [(st,none)]),.bo\.lst (ak [st]),none]) (n:=2*(N-1)+1)
   (λk e=>∃(ks:List (Nat×Option Nat)) (ls:Qxj) (m5:M) (o:Qzq),(m5=.bo∨m5=.fr)∧e=[.al\.lst (bz S),.al\↥st,.al\.bl∘gs,.al\.bl∘bs,.bo\.dk (bw ks),some (m5,⇑ls),o]∧k=2*(N-ks.length)+(if ls.length=0 then 0 else 1)∧TI N (RS S bs gs) st ks∧(∀n∈ls,n∈bB ks)∧∀n∈bB ks,n∉ls→gs.getD n false=false∧∀m,RS S bs gs n m→m∈bB ks)
   (λm d=>m=.un∧∃l,d=⇑l∧Found (RS S bs gs) st gs l)
   (λk e ⟨ks,ls,m5,o,TF,he,hk,hT,HL,zr⟩=>by
    subst he;let hlen:tL [.al\.lst (bz S),.al\↥st,.al\.bl∘gs,.al\.bl∘bs,.bo\.dk (bw ks),some (m5,⇑ls),o]=some (decide ((0:Int)<(ls.length:Int))):=by
     unfold tL;simp! [jB,ae,aL,ag,ai,jV,jC,gz,gy,id_eq,oq,dE,dW,pv,bN]
    rw[hlen];by_cases hz:ls=[]
    ·subst hz;exact .inl rfl
    let nW:0<ls.length:=List.length_pos_iff.mpr hz;refine .inr ⟨by rw[dP ∅],?_⟩;let hfz:aZ 5 [.al\.lst (bz S),.al\↥st,.al\.bl∘gs,.al\.bl∘bs,.bo\.dk (bw ks),some (m5,⇑ls),o]=[.al\.lst (bz S),.al\↥st,.al\.bl∘gs,.al\.bl∘bs,.bo\.dk (bw ks),.fr\⇑ls,o]:=by
     rcases TF with rfl|rfl<;>rfl
    let hit:∀{b:Qqq},bT 5 (aU (bK (jV 5)) (gN 6) b) [.al\.lst (bz S),.al\↥st,.al\.bl∘gs,.al\.bl∘bs,.bo\.dk (bw ks),some (m5,⇑ls),o]=forL (gN 6) b .fr (ak ls) [.al\.lst (bz S),.al\↥st,.al\.bl∘gs,.al\.bl∘bs,.bo\.dk (bw ks),.fr\⇑ls,o]:=λ{b}=>by
     rw[bT,hfz];simp! [aU,bK,jV,gz,gy,id_eq,oq,cf,oy]
    rcases J4 hN hg hT (a0:=.al\.lst (bz S)) (a1:=.al\↥st) (a3:=.al\.bl∘bs) (a5:=.fr\⇑ls) ls (o6:=o) HL with⟨g1,o',g2⟩|⟨e',l,g1,g2⟩
    ·let⟨new,n1,n2,n3⟩:=YS hN hS hm hb hT λn hn=>⟨HL n hn,g1 n hn⟩;let c2:(bB new).length=new.length:=by simp[bB]
     let t1:=n2.len;rw[fw]at t1;refine .inl ⟨[.al\.lst (bz S),.al\↥st,.al\.bl∘gs,.al\.bl∘bs,.bo\.dk (bw (ks++new)),.fr\.lst (ak (bB new)),o'],_,.inl ?_,⟨ks++new,bB new,.fr,o',.inr rfl,rfl,rfl,n2,λn hn=>?_,λn hn hnn=>?_⟩,?_⟩
     ·unfold xo;rw[av (by rw[hit];exact g2)];simp! [yL,Dv,ag,ai,jV,gz,gy,oq,id_eq,WU,if_true,mq,mn,n1,mD,tz,tq]
     ·rw[k9];exact jD _ hn
     ·rw[k9]at hn;rcases iD.mp hn with z|z
      ·by_cases FC:n∈ls
       ·exact⟨g1 n FC,n3 n FC⟩
       ·let⟨d1,d2⟩:=zr n z FC;exact⟨d1,λm hm=>by rw[k9];exact jA _ (d2 m hm)⟩
      ·exact absurd z hnn
     ·rw[hk,c2,if_neg (show ¬ls.length=0 by omega),fw];split<;>omega
    ·refine .inr ⟨e',.un,⇑l,?_,rfl,l,rfl,g2⟩;unfold xo;rw[dJ (by rw[hit];exact g1)])
   ⟨[(st,none)],[st],.bo,none,.inl rfl,rfl,by simp,TI.one fI,λn hn=>by simpa[bB]using hn,λn hn xa=>absurd (by simpa[bB]using hn) xa⟩
  rcases wh with⟨e',k',w1,⟨ks,ls,m5,o,TF,he,_,hT,HL,zr⟩,w3⟩|⟨e',m,d,w1,rfl,l,rfl,w3⟩
  ·subst he;let hz:ls=[]:=by
    unfold tL at w3;simp! [jB,ae,aL,ag,ai,jV,jC,gz,gy,id_eq,oq,dE,dW,pv,bN]at w3;have:=eC w3;rw[decide_eq_false_iff_not]at this;exact List.length_eq_zero_iff.mp ∅
   subst hz;refine .inr ⟨by rw[av w1];rfl,.inr ⟨λn=>n∈bB ks,bP.mpr ⟨(st,none),dO hT.hd,rfl⟩,λn m hn hs=>(zr n hn (λz=>nomatch z)).2 m hs,λn hn=>(zr n hn (λz=>nomatch z)).1⟩⟩
  ·refine .inl ⟨l,?_,w3,rfl⟩;rw[dJ w1,oq,uO]
end
def dU(rs:List Row)(q:De):List Bool:=rs.mapIdx λn r=>dD (sets r) q||(decide (n=0)&&!decide (b9 r=some q))
def cU(rs:List Row)(q:De):List Bool:=rs.map λr=>decide (b9 r=some q)&&!dD (sets r) q
def FD{rs:List Row}{f:Row→Bool}{n:Nat}{r:Row}(h:rs[n]?=some r):(rs.map f).getD n false=f r:=by
 simp[List.getD_eq_getElem?_getD,h]
def vF{rs:List Row}{q:De}{n:Nat}{r:Row}(h:rs[n]?=some r):(dU rs q).getD n false=(dD (sets r) q||(decide (n=0)&&!decide (b9 r=some q))):=by
 simp[dU,List.getD_eq_getElem?_getD,h]
def rg{rs:List Row}{n:Nat}(h:n<rs.length):∃r,rs[n]?=some r:=⟨_,dC h⟩
section
variable {rs:List Row}{j:Nat}{q:De}{Bk:List (Qxj)}
def vk(hq:(kn rs)[j]?=some q)(r:Row):fX (kn rs) r j=!decide (b9 r=some q):=by
 unfold fX nY;rw[hq];cases b9 r with
 |none=>simp
 |some p=>simp
def zt(hq:(kn rs)[j]?=some q)(r:Row):gq (kn rs) r j=dD (sets r) q:=by
 unfold gq fW;rw[hq]
def NZ{n:Nat}{r:Row}(hr:rs[n]?=some r)(hb:(cU rs q).getD n false=false)(hg:(dU rs q).getD n false=false):decide (b9 r=some q)=false∧dD (sets r) q=false:=by
 rw[cU,FD hr]at hb;rw[vF hr]at hg;let⟨h1,_⟩:=Bool.or_eq_false_iff.mp hg;rw[h1]at hb;exact⟨by simpa using hb,h1⟩
@[reducible]def RT(Bk:List (Qxj))(rs:List Row)(q:De):Nat→Nat→Prop:=RS Bk (cU rs q) (dU rs q)
theorem Jq(hB:∀n m,n∈Bk.getD m []→aQ rs n m)(hq:(kn rs)[j]?=some q):∀{l:Qxj}{st:Nat},oJ (RT Bk rs q) l→l.head?=some st→(∃x,l.getLast?=some x∧(dU rs q).getD x false=true)→(cU rs q).getD st false=false→st<rs.length→f9 rs j st
  |[],_,_,h,_,_,_=>by cases h
  |[x],st,_,h,⟨y,hy,hg⟩,hb,hs=>by
    cases h;obtain rfl:x=y:=by simpa using hy
    let⟨r,hr⟩:=rg hs;rw[vF hr]at hg;rcases Bool.or_eq_true_iff.mp hg with z|z
    · exact .chg hr (by rw[zt hq];exact z)
    · let⟨z1,z2⟩:=Bool.and_eq_true_iff.mp z
      exact .start hr (by simpa using z1) (by rw[vk hq];exact z2)
  |a::b::t,st,⟨xi,hp⟩,h,⟨y,hy,hg⟩,hb,hs=>by
    cases h;let⟨r,hr⟩:=rg hs;let fI:=hB _ _ xi.1;let hl:b<rs.length:=by let⟨_,z,_⟩:=fI;exact(a9.mp z).1
    refine .step hr ?_ fI (Jq hB hq hp rfl ⟨y,by rw[List.getLast?_cons_cons]at hy;exact hy,hg⟩ xi.2.1 hl);rw[vk hq,(NZ hr hb xi.2.2).1];rfl
def Mt(hq:(kn rs)[j]?=some q){n:Nat}(h:f9 rs j n):(cU rs q).getD n false=false:=by
 have:∀{r:Row},rs[n]?=some r→fX (kn rs) r j=true→(cU rs q).getD n false=false:=λ{r} hr hn=>by
  rw[vk hq]at hn;rw[cU,FD hr];have:decide (b9 r=some q)=false:=by simpa using hn
  rw[this];rfl
 cases h with
 |chg hr hm=>rw[zt hq]at hm;rw[cU,FD hr,hm,Bool.not_true,Bool.and_false]
 |start hr _ hn=>exact this hr hn
 |step hr hn _ _=>exact this hr hn
def YT(hB:∀n m,aQ rs n m→n∈Bk.getD m [])(hq:(kn rs)[j]?=some q){st:Nat}(h:(cU rs q).getD st false=true∨TC (RT Bk rs q) st (dU rs q)):¬f9 rs j st:=by
 intro hM;rcases h with h|⟨C,c0,c1,c2⟩
 ·rw[Mt hq hM]at h;cases h
 ·induction hM with
  |chg hr hm =>
   have:=c2 _ c0;rw[zt hq]at hm;rw[vF hr,hm,Bool.true_or]at this;cases this
  |start hr h0 hn =>
   have:=c2 _ c0;rw[vk hq]at hn;rw[vF hr,hn,h0,dP rfl,Bool.true_and,Bool.or_true]at this;cases this
  |@step n m r hr hn hs hM ih=>exact ih (c1 _ _ c0 ⟨hB _ _ hs,Mt hq hM,c2 _ c0⟩)
def abq(m n:M)(o:Option De)(q:De):vD (m,dd o) (n,ao q)=some (.fr,.bl (decide (o=some q))):=by
 cases o with
 |none=>rfl
 |some p =>
  let d1:=yo p;show gB (m,ao p) (n,ao q)=_;unfold gB j7;rw[uC,uC,show pw (ao p) (ao q)=true from rfl,dP (show min (toPy (ao p)).depth (toPy (ao q)).depth≤60 by omega),yZ];simp
def abr{A1 A2 o8 A9:Qzq}(hl:rs.length≤300){i:Nat}{r:Row}(hr:rs[i]?=some r) :
  xE [.al\Row.d∘rs,A1,A2,.fr\ao q,.bo\.lst (((dU rs q).take i).map .bl),.bo\.lst (((cU rs q).take i).map .bl),.al\↥i,.al\r.d,o8,A9]=some (.nx [.al\Row.d∘rs,A1,A2,.fr\ao q,.bo\.lst (((dU rs q).take (i+1)).map .bl),.bo\.lst (((cU rs q).take (i+1)).map .bl),.al\↥i,.al\r.d,.fr\.bl (decide (b9 r=some q)),A9]):=by
 let hi:i<rs.length:=(a9.mp hr).1;let g1:(dU rs q)[i]?=some (dD (sets r) q||(decide (i=0)&&!decide (b9 r=some q))):=by simp[dU,hr]
 let b1:(cU rs q)[i]?=some (decide (b9 r=some q)&&!dD (sets r) q):=by simp[cU,hr]
 let s1:(((dU rs q).take i).map D.bl).length<sizeLine:=by
  rw[ln,lH];exact eD (show _≤300 by omega) (by decide)
 let s2:(((cU rs q).take i).map D.bl).length<sizeLine:=by
  rw[ln,lH];exact eD (show _≤300 by omega) (by decide)
 rw[jF,jF,g1,b1,oi,oi,km,km];unfold xE;rw[av (e':=[.al\Row.d∘rs,A1,A2,.fr\ao q,.bo\.lst (((dU rs q).take i).map .bl),.bo\.lst (((cU rs q).take i).map .bl),.al\↥i,.al\r.d,.fr\.bl (decide (b9 r=some q)),A9]) (by
  simp! [ax,ae,aC,ag,ai,jV,gz,gy,id_eq,oq,mq,mn,yC,abq,mr,tz,tq])]
 let e0:decide ((i:Int)=0)=decide (i=0):=by rw[kh];simp
 let x1:(lQ (aC mh (ag (jV 7) (ag (jV 3) ai))) (gM (ae aP (jV 6) (jC (.int 0))) (j5 (jV 8)))) [.al\Row.d∘rs,A1,A2,.fr\ao q,.bo\.lst (((dU rs q).take i).map .bl),.bo\.lst (((cU rs q).take i).map .bl),.al\↥i,.al\r.d,.fr\.bl (decide (b9 r=some q)),A9]=some (.fr,.bl (dD (sets r) q||(decide (i=0)&&!decide (b9 r=some q)))):=by
  simp! [lQ,gM,j5,ae,aC,ag,ai,jV,jC,gz,gy,id_eq,oq,mq,mn,yb,bN,iT,e0];cases dD (sets r) q<;>cases decide (i=0)<;>cases decide (b9 r=some q)<;>rfl
 rw[av (e':=[.al\Row.d∘rs,A1,A2,.fr\ao q,.bo\.lst (((dU rs q).take i).map .bl++[.bl (dD (sets r) q||(decide (i=0)&&!decide (b9 r=some q)))]),.bo\.lst (((cU rs q).take i).map .bl),.al\↥i,.al\r.d,.fr\.bl (decide (b9 r=some q)),A9]) (by
  ac_rfl)]
 let x2:∀{x:Qzq},(gM (jV 8) (j5 (aC mh (ag (jV 7) (ag (jV 3) ai))))) [.al\Row.d∘rs,A1,A2,.fr\ao q,x,.bo\.lst (((cU rs q).take i).map .bl),.al\↥i,.al\r.d,.fr\.bl (decide (b9 r=some q)),A9]=some (.fr,.bl (decide (b9 r=some q)&&!dD (sets r) q)):=λ{x}=>by
  simp! [gM,j5,aC,ag,ai,jV,gz,gy,id_eq,oq,mq,mn,yb,bN];cases decide (b9 r=some q)<;>cases dD (sets r) q<;>rfl
 simp! [cE,x2,oq,iq,if_true,dZ,own,gz,gy,s2,tz,tq];rfl
def abt(g:Good rs)(hl:rs.length≤300)(hq:(kn rs)[j]?=some q){a:Int}{n:Nat}(hn:n<rs.length) :
  (∃Bk l,oP [Row.d∘rs,↥j,ck ((n:Int),a)]=.un\.lst (ak l.reverse)∧(∀n m,n∈Bk.getD m []→aQ rs n m)∧Found (RT Bk rs q) n (dU rs q) l∧(cU rs q).getD n false=false) ∨
  (oP [Row.d∘rs,↥j,ck ((n:Int),a)]=.fr\.non∧¬f9 rs j n):=by
 let hj:j<(kn rs).length:=(a9.mp hq).1;let eq:L2.bp ((kn rs).map ao) (j:Int)=some (ao q):=by
  rw[J.ml (by simpa using hj),As,(a9.mp hq).2]
 let⟨Bk,e5,b1,b2,b3⟩:=UE g ∅;let aX:∀n,∀m∈Bk.getD n [],m<rs.length:=λn m hm=>by let⟨_,z,_⟩:=b3 m n hm;exact(a9.mp z).1
 let⟨x1,l1,o6,o7,o8,he⟩:=du (g:=gT 2 (bR (gN 6) (bR (gN 7) dX))) (b:=xE) (m:=.al) (ds:=bY (rs.map Row.d)) (e:=[.al\Row.d∘rs,.al\↥j,.al\ck ((n:Int),a),.fr\ao q,.bo\.lst [],.bo\.lst [],none,none,none,none])
  (λi e=>∃o6 o7 o8,e=[.al\Row.d∘rs,.al\↥j,.al\ck ((n:Int),a),.fr\ao q,.bo\.lst (((dU rs q).take i).map .bl),.bo\.lst (((cU rs q).take i).map .bl),o6,o7,o8,none]) ⟨none,none,none,rfl⟩
  (λi d e hd bu=>by
   let⟨o6,o7,o8,he⟩:=bu;subst he;let⟨r,hr,rfl⟩:=L1 hd;exact⟨_,_,rfl,abr hl hr,_,_,_,rfl⟩)
 subst he;let hE:(bY (rs.map Row.d)).length=rs.length:=by simp[bY]
 let sZ:(dU rs q).length=rs.length:=by simp[dU]
 let Ct:(cU rs q).length=rs.length:=by simp[cU]
 rw[hE,List.take_of_length_le (oa sZ),List.take_of_length_le (oa Ct)]at l1;unfold oP fn CH;simp only[cv,bD,bG];rw[av (e':=[.al\Row.d∘rs,.al\↥j,.al\ck ((n:Int),a),none,none,none,none,none,none,none]) (by
  rw[bE (by
   simp! [jB,ae,cj,jV,jC,gz,gy,id_eq,oq,p0,lz,iT,bN];rw[eQ ∅])]
  rfl)]
 rw[av (e':=[.al\Row.d∘rs,.al\↥j,.al\ck ((n:Int),a),.fr\ao q,none,none,none,none,none,none]) (by
  symm;rw[yE ∅];symm;rw[eq];rfl)]
 rw[av (e':=[.al\Row.d∘rs,.al\↥j,.al\ck ((n:Int),a),.fr\ao q,.bo\.lst [],none,none,none,none,none]) rfl];rw[av (e':=[.al\Row.d∘rs,.al\↥j,.al\ck ((n:Int),a),.fr\ao q,.bo\.lst [],.bo\.lst [],none,none,none,none]) rfl];rw[av (by
  rw[bT,show aZ 0 [.al\Row.d∘rs,.al\↥j,.al\ck ((n:Int),a),.fr\ao q,.bo\.lst [],.bo\.lst [],none,none,none,none]=[.al\Row.d∘rs,.al\↥j,.al\ck ((n:Int),a),.fr\ao q,.bo\.lst [],.bo\.lst [],none,none,none,none] from rfl];simp! [aU,gj,ag,jV,ai,gz,gy,oq,id_eq,cf,oy];exact l1)]
 let call:∀{x:M×D},oN [.lst (bz Bk),↥n,.lst ((dU rs q).map .bl),.lst ((cU rs q).map .bl)]=some x→(aC oN (ag (aC uA (ag (aC oK (ag (jV 0) ai)) ai)) (ag (ae au (jV 2) (jC (.int 0))) (ag (jV 4) (ag (jV 5) ai))))) [.al\Row.d∘rs,.al\↥j,.al\ck ((n:Int),a),.fr\ao q,.bo\.lst ((dU rs q).map .bl),.bo\.lst ((cU rs q).map .bl),o6,o7,o8,none]=some x:=λ{x} h=>by
  simp! [ae,aC,ag,ai,jV,jC,gz,gy,id_eq,oq,mq,mn,CQ (rs:=rs) ∅,e5,p0,h]
 rcases WV (N:=rs.length) (S:=Bk) (bs:=cU rs q) (gs:=dU rs q) (st:=n) ∅ b1 aX Ct sZ hn with⟨l,e,f,hb⟩|⟨e,h⟩
 ·refine .inl ⟨Bk,l,?_,b3,f,hb⟩;rw[av (e':=[.al\Row.d∘rs,.al\↥j,.al\ck ((n:Int),a),.fr\ao q,.bo\.lst ((dU rs q).map .bl),.bo\.lst ((cU rs q).map .bl),o6,o7,o8,.bo\⇑l]) (by
   rw[ax,call e];rfl)]
  rw[av (by rw[bE (by rfl)];rfl)];simp! [aq,rV,aF,jV,dZ,own,gz,gy,tz,tq,if_true,oq,id_eq,Ms,uP]
 ·refine .inr ⟨?_,YT b2 hq h⟩;rw[av (e':=[.al\Row.d∘rs,.al\↥j,.al\ck ((n:Int),a),.fr\ao q,.bo\.lst ((dU rs q).map .bl),.bo\.lst ((cU rs q).map .bl),o6,o7,o8,.fr\.non]) (by
   rw[ax,call e];rfl)]
  rw[dJ (by rw[bF (by rfl)];rfl)];rfl
end
theorem N0{val:Nat→Int}:∀i,(∀a b,a<i→b<i→val a=val b→a=b)→(PyProof.Rows.firstMet val i).length=i
 |0,_=>rfl
 |i+1,h=>by
  let ih:=N0 i λa b ha hb=>h a b ∅ ∅;rw[PyProof.Rows.firstMet_succ,PyProof.Rows.step_length,PyProof.Rows.firstMet_any,if_neg,ih];intro z;let⟨x,hx,e⟩:=qd.mp z;let⟨a,ha,rfl⟩:=bP.mp hx;let ha:=iC.mp ha;have:=h a i ∅ ∅ (by simpa using e);omega
abbrev nI(l:Qxj):Qxk:=l.map λ(n:Nat)=>(n:Int)
theorem J5:∀l:Qxj,lB (ak l)=some (nI l)
 |[]=>rfl
 |a::l=>by rw[show ak (a::l)=↥a::ak l from rfl,lB,J5 l];rfl
def abu{l:Qxj}(h:l.Nodup):qv (nI l)=l.length:=by
 unfold qv;rw[N0]
 ·simp[nI]
 ·intro a b ha hb e;let wg:a<l.length:=by simpa[nI]using ha
  let ng:b<l.length:=by simpa[nI]using hb
  let e':l[a]=l[b]:=Int.ofNat_inj.mp (by simpa[nI,wg,ng]using e);exact(List.getElem?_inj wg h).mp (by rw[dC wg,dC ng,e'])
theorem KS:∀l:Qxj,pO (ak l)=some (l.map λ(n:Nat)=>V.int (n:Int))
 |[]=>rfl
 |a::l=>by rw[show ak (a::l)=↥a::ak l from rfl,pO,KS l];rfl
def abv{m n:M}{x:Nat}{l:Qxj}:ft true (m,↥x) (n,⇑l)=some (.fr,.bl (!decide (x∈l))):=by
 show((pO (ak l)).bind λvs=>some (M.fr,D.bl (if true then !eE (V.int (x:Int)) vs else eE (V.int (x:Int)) vs)))=_;rw[KS,oq,if_pos rfl];congr 4;rw[kh,eE,List.any_map,qd,decide_eq_true_iff];constructor
 ·rintro⟨y,hy,e⟩;have:((y:Nat):Int)=(x:Int):=by simpa[kH]using e
  rw[←Int.ofNat_inj.mp this];exact hy
 ·intro hx;exact⟨x,hx,by simp[kH]⟩
theorem N1{R:Nat→Nat→Prop}:∀{l:Qxj}{i a b:Nat},oJ R l→l[i]?=some a→l[i+1]?=some b→R a b
 |x::y::t,0,a,b,⟨h,_⟩,h1,h2=>by
  simp at h1 h2;subst h1;subst h2;exact h
 |x::y::t,i+1,a,b,⟨_,h⟩,h1,h2=>N1 (l:=y::t) (i:=i) h (by simpa using h1) (by simpa using h2)
 |[x],i,a,b,_,h1,h2=>by simp at h2
 |[],i,a,b,_,h1,h2=>by simp at h1
theorem Mu{R:Nat→Nat→Prop}{P:Nat→Prop}(hR:∀a b,R a b→P b):∀{l:Qxj}{st:Nat},oJ R l→l.head?=some st→P st→∀x∈l,P x
  |[],_,_,h,_=>by cases h
  |[y],st,_,h,hp=>λx hx=>by
    cases h;have:x=y:=by simpa using hx
    subst this;exact hp
  |a::b::t,st,⟨h1,h2⟩,h,hp=>λx hx=>by
    cases h;rcases dN.mp hx with rfl|hx
    · exact hp
    · exact Mu hR h2 rfl (hR _ _ h1) x hx
def YV{rs:List Row}(g:Good rs){n:Nat}{r:Row}(h:rs[n]?=some r):qF [Row.d∘rs,↥n]=some (.un,.lst (ak (dR rs n))):=by
 rw[DG rs n r h,←yT g];unfold cF;rw[h]
def YW{R:Nat→Nat→Prop}{l:Qxj}{i a b:Nat}(h:oJ R l)(h1:l.reverse[i]?=some a)(h2:l.reverse[i+1]?=some b):R b a:=by
 let l2:=(a9.mp h2).1;rw[List.length_reverse]at l2;rw[List.getElem?_reverse ∅]at h1 h2;refine N1 h h2 ?_;rw[show l.length-1-(i+1)+1=l.length-1-i by omega];exact h1
def J9{xs:Qzz}{d:D}:L2.bp (xs++[d]) (-1)=some d:=by
 unfold L2.bp L2.dh;rw[if_neg (by decide),fw,List.length_singleton,if_pos ∅,oq,show(-1+((xs.length+1:Nat):Int)).toNat=xs.length by omega];simp
def abw{rs:List Row}(g:Good rs){ah:Qxj}{A1 A2 A3 A6:Qzq}{x:Nat}{r:Row}(hr:rs[x]?=some r)(hx:x∈ah)(o5:Qzq) :
  ∃e1,gN 5 (M.al,↥x) [.al\Row.d∘rs,A1,A2,A3,.bo\⇑ah,o5,A6]=some e1 ∧
   xI e1=some (.nx [.al\Row.d∘rs,A1,A2,A3,.bo\.lst (ak (dR rs x)),.al\↥x,A6]):=by
 refine⟨[.al\Row.d∘rs,A1,A2,A3,.bo\⇑ah,.al\↥x,A6],rfl,?_⟩;unfold xI;rw[av (e':=[.al\Row.d∘rs,A1,A2,A3,.bo\⇑ah,.al\↥x,A6]) (by
  rw[bE (by
   simp! [cI,eO,jB,aL,ae,ag,ai,jV,jC,gz,gy,id_eq,oq,CL,Ij,bN,abv,decide_eq_true hx];rfl)]
  rfl)]
 simp! [ax,aC,ag,ai,jV,gz,gy,id_eq,oq,mq,mn,YV g hr,mv,tz,tq]
def WW{a:Nat}{w:Qxj}:J.cut (nI (a::w)) (some 1) none=nI w:=by
 unfold J.cut;simp[HT.bj,nI];exact List.take_of_length_le (by simp)
def Vs{rs:List Row}(g:Good rs)(hl:rs.length≤300){q:De}{Bk:List (Qxj)}(hB:∀n m,n∈Bk.getD m []→aQ rs n m){l:Qxj}{n:Nat}(hf:Found (RT Bk rs q) n (dU rs q) l)(hb:(cU rs q).getD n false=false)(hn:n<rs.length) :
  oQ [Row.d∘rs,ao q,.lst (ak l.reverse),↥n]=some (.fr,.bl true):=by
 let⟨hp,hh,⟨z,hz,Cw⟩,iG⟩:=hf;let all:∀x∈l,x<rs.length∧(cU rs q).getD x false=false:=Mu (λa b h=>⟨by let⟨_,w,_⟩:=hB _ _ h.1;exact(a9.mp w).1,h.2.1⟩) hp hh ⟨hn,hb⟩;let hlen:=oT rs.length l iG λx hx=>(all x hx).1;obtain⟨t,rfl⟩:∃t,l=n::t:=by
  cases l with
  |nil=>cases hh
  |cons a t=>cases hh;exact⟨t,rfl⟩
 let AO:(n::t).reverse[0]?=some z:=by
  rw[List.getElem?_reverse (by simp),←hz,List.getLast?_eq_getElem?];simp
 obtain⟨w,hw⟩:∃w,(n::t).reverse=z::w:=by
  cases e:(n::t).reverse with
  |nil=>simp at e
  |cons a w=>rw[e]at AO;cases AO;exact⟨w,rfl⟩
 let hwn:(z::w).Nodup:=by rw[←hw];exact List.pairwise_reverse.mpr (iG.imp λh=>h.symm)
 let AH:w.length+1=t.length+1:=by have:=de List.length hw;simpa using this.symm
 let zX:∀x∈z::w,x<rs.length∧(cU rs q).getD x false=false:=λx hx=>all x (by rw[←hw]at hx;exact List.mem_reverse.mp hx);let Hz:∀{i a b:Nat},(z::w)[i]?=some a→(z::w)[i+1]?=some b→RT Bk rs q b a:=λ{i a b} h1 h2=>by
  rw[←hw]at h1 h2;exact YW hp h1 h2
 let vj:ak (z::w)=ak t.reverse++[↥n]:=by rw[←hw,vJ,uB]
 let⟨r,hr⟩:=rg (zX z cg).1;let ar:=jS hr;rw[vF hr]at Cw;rw[hw];let⟨x1,l1,ah,o5,he,_⟩:=du (g:=gN 5) (b:=xI) (m:=.al) (ds:=ak (z::w)) (e:=[.al\Row.d∘rs,.al\ao q,.al\.lst (ak (z::w)),.al\↥n,.bo\.lst (ak (List.range rs.length)),none,none])
  (λi e=>∃(ah:Qxj) (o5:Qzq),e=[.al\Row.d∘rs,.al\ao q,.al\.lst (ak (z::w)),.al\↥n,.bo\⇑ah,o5,none]∧∀x,(z::w)[i]?=some x→x∈ah)
  ⟨_,none,rfl,λx hx=>iC.mpr (zX x (dO hx)).1⟩
  (λi d e hd bu=>by
   let⟨ah,o5,he,h1⟩:=bu;subst he;obtain⟨x,hx,rfl⟩:∃x,(z::w)[i]?=some x∧d=.int ((x:Nat):Int):=by
    unfold ak at hd;rw[cA]at hd;cases e:(z::w)[i]? with
    |none=>rw[e]at hd;cases hd
    |some x=>rw[e]at hd;cases hd;exact⟨x,rfl,rfl⟩
   let⟨rx,Cy⟩:=rg (zX x (dO hx)).1;let⟨e1,w1,w2⟩:=abw g Cy (h1 x hx) o5;exact⟨e1,_,w1,w2,dR rs x,_,rfl,λx' kJ=>C9 (hB _ _ (Hz hx kJ).1)⟩)
 subst he;let⟨x2,l2,dm,he⟩:=du (g:=gN 5) (b:=CF) (m:=.fr) (ds:=ak w) (e:=[.al\Row.d∘rs,.al\ao q,.al\.lst (ak (z::w)),.al\↥n,.bo\⇑ah,o5,none])
  (λ_ e=>∃o5,e=[.al\Row.d∘rs,.al\ao q,.al\.lst (ak (z::w)),.al\↥n,.bo\⇑ah,o5,none]) ⟨o5,rfl⟩
  (λi d e hd bu=>by
   let⟨o5,he⟩:=bu;subst he;obtain⟨x,hx,rfl⟩:∃x,w[i]?=some x∧d=.int ((x:Nat):Int):=by
    unfold ak at hd;rw[cA]at hd;cases e:w[i]? with
    |none=>rw[e]at hd;cases hd
    |some x=>rw[e]at hd;cases hd;exact⟨x,rfl,rfl⟩
   let GP:=(a9.mp hx).1;let kJ:(z::w)[i+1]?=some x:=by simpa using hx
   let rM:(z::w)[i]?=some ((z::w)[i]'(by simp;omega)):=dC _;let⟨xl,xb⟩:=zX x (c9 _ (dO hx));let⟨rx,Cy⟩:=rg xl;let hm:=NZ Cy xb (Hz rM kJ).2.2;refine⟨[.al\Row.d∘rs,.al\ao q,.al\.lst (ak (z::w)),.al\↥n,.bo\⇑ah,.fr\↥x,none],_,rfl,?_,.fr\↥x,rfl⟩;unfold CF;rw[bE (by simp! [jB,aC,ae,ag,ai,jV,gz,gy,id_eq,oq,cZ,jS Cy,oy,mq,mn,D4,bN,hm.1])];rfl)
 subst he;let hz0:L2.bp (ak (z::w)) 0=some (↥z):=Et;let hzl:L2.bp (ak (z::w)) (-1)=some (↥n):=by rw[vj,J9]
 unfold oQ fn CK;simp only[cv,bD,bG];rw[av (e':=[.al\Row.d∘rs,.al\ao q,.al\.lst (ak (z::w)),.al\↥n,none,none,none]) (by
  rw[bE (by
   let e2:(nI (z::w)).length<4000:=by simp[nI];simp at hlen;omega
   simp! [cI,eO,jB,aL,Bg,ae,ag,ai,jV,jC,gz,gy,id_eq,oq,show jw [(M.al,D.lst (ak (z::w))),(.fr,.ty "list")]=some (.fr,.bl true)from rfl,bN,dE,dW,J5,e2,if_true,abu hwn,zh,decide_true];rfl)]
  rfl)]
 rw[av (e':=[.al\Row.d∘rs,.al\ao q,.al\.lst (ak (z::w)),.al\↥n,none,none,none]) (by
  rw[bE (by infer_instance)];rfl)]
 rw[av (e':=[.al\Row.d∘rs,.al\ao q,.al\.lst (ak (z::w)),.al\↥n,none,none,none]) (by
  rw[bE (by
   let e1:decide (((z::w).length:Int)=0)=false:=eQ (by simp;omega);simp! [cI,jB,aL,ae,cj,ag,ai,jV,jC,gz,gy,id_eq,oq,dE,dW,iT,e1,bN,lz,cZ,hzl,oy,zh,decide_true];rfl)]
  rfl)]
 rw[av (e':=[.al\Row.d∘rs,.al\ao q,.al\.lst (ak (z::w)),.al\↥n,.bo\.lst (ak (List.range rs.length)),none,none]) (by
  simp! [ax,tf,aL,ag,ai,jV,gz,gy,id_eq,oq,dE,ln];rw[if_pos ∅,qc,uI];rfl)]
 rw[av (by
  rw[bT,show aZ 2 [.al\Row.d∘rs,.al\ao q,.al\.lst (ak (z::w)),.al\↥n,.bo\.lst (ak (List.range rs.length)),none,none]=[.al\Row.d∘rs,.al\ao q,.al\.lst (ak (z::w)),.al\↥n,.bo\.lst (ak (List.range rs.length)),none,none] from rfl];simp! [aU,bK,jV,gz,gy,id_eq,oq,cf,oy];exact l1)]
 rw[av (by
  simp! [aU,bK,gR,gx,iz,jV,jC,gz,gy,id_eq,oq,lj,oy,show ak (z::w)=(nI (z::w)).map D.int by simp[ak,nI],DI,WW,cf];rw[show(nI w).map D.int=ak w by simp[ak,nI],show(nI (z::w)).map D.int=ak (z::w) by simp[ak,nI]];exact l2)]
 rw[av (e':=[.al\Row.d∘rs,.al\ao q,.al\.lst (ak (z::w)),.al\↥n,.bo\⇑ah,dm,.al\r.d]) (by ac_rfl)];let e0:decide ((z:Int)=0)=decide (z=0):=by rw[kh];simp
 simp! [aF,lQ,gM,j5,ae,aC,ag,ai,jV,jC,gz,gy,id_eq,oq,cZ,hz0,oy,mq,mn,DC,bN,iT,e0,D4];revert Cw;cases dD (sets r) q<;>cases decide (z=0)<;>cases decide (b9 r=some q)<;>intro Cw<;>first|rfl|cases Cw
def p1(m n:M)(q:Int×Int):au (m,ck q) (n,.int 1)=some (bf m,.int q.2):=rfl
def N2{m n m':M}{p:Nat→Bool}{k j:Nat}(h:j<k):((mM (m,bI p k) (n,↥j)).bind λy=>gX y (m',.int 1))=some (.fr,.int (if p j=true then 1 else 0)):=by
 let e1:mM (m,bI p k) (n,↥j)=some (.fr,.int ((bH p k/2^j:Nat):Int)):=by
  rw[bI,M3 ∅,qc];rfl
 let e2:(bH p k/2^j)%2=if p j=true then 1 else 0:=by
  have:=k7 p k j;rw[Nat.testBit_eq_decide_div_mod_eq,dP h,Bool.true_and]at this;cases hp:p j with
  |true=>rw[hp]at this;simpa using this
  |false =>
   rw[hp]at this;have:¬(bH p k/2^j%2=1):=by simpa using this
   simp;omega
 rw[e1,oq,show(M.fr,D.int ((bH p k/2^j:Nat):Int))=(M.fr,.int ((bH p k/2^j:Nat):Int))from rfl,Du,show(1:Int)=((1:Nat):Int)from rfl,Fw,Nat.and_one_is_mod,e2];cases p j<;>rfl
def N3{f:Int→D}{l:List (Int×Int)}(h:l.Nodup):cR l f=l.map λq=>(pK q,f q.1):=by
 let go:∀(l a:List (Int×Int)),(a++l).Nodup→l.foldl (λd q=>putD d (pK q) (f q.1)) (a.map λq=>(pK q,f q.1))=(a++l).map λq=>(pK q,f q.1):=by
  intro l
  induction l with
  |nil=>intro a _;simp
  |cons q l ih =>
   intro a hn;rw[List.foldl_cons,yn,show(a.map λq=>(pK q,f q.1))++[(pK q,f q.1)]=(a++[q]).map λq=>(pK q,f q.1) by simp,ih (a++[q]) (by simpa using hn)]
   ·simp
   ·intro kv hk e;let⟨x,hx,rfl⟩:=bP.mp hk;have:x=q:=by
     let e':pK x=pK q:=e;simp only[pK,List.cons.injEq,Key.inl.injEq,and_true]at e';exact Prod.ext e'.1 e'.2
    subst this;exact(sv.mp hn).2.2 x hx x cg rfl
 simpa[cR]using go l [] (by simpa using h)
def abx{f:Int→D}{l:List (Int×Int)}(h:l.Nodup){q:Int×Int}(hq:q∈l):dz (cR l f) (pK q)=some (f q.1):=by
 refine yd (λkv hk e=>?_) ⟨(pK q,f q.1),by rw[N3 h];exact bP.mpr ⟨q,hq,rfl⟩,rfl⟩;rw[YL l kv hk,e];rfl
def Mv{rs:List Row}(g:Good rs){q:Int×Int}(h:q∈aJ rs rs.length)(hq:q.1≠-1):∃n m:Nat,q=((n:Int),(m:Int))∧aQ rs n m:=by
 unfold aJ at h;rcases dN.mp h with rfl|h
 ·exact absurd rfl hq
 ·let⟨n,hn,hm⟩:=F7.mp h;let⟨m,jL,rfl⟩:=bP.mp hm;let⟨m0,m1⟩:=C8 g jL;exact⟨n,m.toNat,by rw[vR m0],qM g (bP.mpr ⟨m,jL,rfl⟩)⟩
section
variable {rs:List Row}
def aby(k:Nat):∀q∈aJ rs k,q.1<(k:Int):=by
 induction k with
 |zero =>
  intro q hq;have:q=(-1,0):=by simpa[aJ]using hq
  subst this;decide
 |succ k ih =>
  intro q hq;rw[oW]at hq;rcases iD.mp hq with z|z
  ·have:=ih q z;omega
  ·let⟨m,_,rfl⟩:=bP.mp z;show(k:Int)<_;omega
theorem Ea(g:Good rs):∀k,(aJ rs k).Nodup
  |0=>by simp[aJ]
  |k+1=>by
    rw[oW,sv];refine⟨Ea g k,?_,λa ha b hb e=>?_⟩
    · have:(cF rs k).Nodup:=by
        unfold cF;cases h:rs[k]? with
        |none=>exact sr
        |some r =>
          cases r with
          |pt a t =>
            have:=g.np k a t h;show[(k:Int)+1,t].Nodup;simp;omega
          |_=>simp[aN.bA]
      exact List.Pairwise.map _ (λa b xi e=>xi (Prod.mk.inj e).2) this
    · subst e
      have:=aby k a ha;let⟨m,_,rfl⟩:=bP.mp hb;exact absurd this (Int.lt_irrefl _)
def Ex(g:Good rs){P:Nat→Nat→Bool}{q:Int×Int}(hq:q∈aJ rs rs.length):dz (cR (aJ rs rs.length) (cC P (kn rs).length)) (pK q)=some (cC P (kn rs).length q.1):=abx (Ea g _) hq
def abz(g:Good rs){P:Nat→Nat→Bool}(hP:∀n j,n<rs.length→j<(kn rs).length→(P n j=true↔f9 rs j n)){j:Nat}{q:De}(hq:(kn rs)[j]?=some q){n:Nat}{r:Row}(hr:rs[n]?=some r)(mY:fX (kn rs) r j=true)(h0:n≠0)(hM:¬f9 rs j n){A0 A1:Qzq}{L:D}{s:Int×Int}(hs:s∈aJ rs rs.length) :
    xV [A0,A1,.al\↥j,.al\.dt (cR (aJ rs rs.length) (cC P (kn rs).length)),.al\L,.al\↥n,.al\ck s]=some (.nx [A0,A1,.al\↥j,.al\.dt (cR (aJ rs rs.length) (cC P (kn rs).length)),.al\L,.al\↥n,.al\ck s]):=by
  let hj:j<(kn rs).length:=(a9.mp hq).1;let hv:=Ex (P:=P) g hs;generalize hW:cR (aJ rs rs.length) (cC P (kn rs).length)=W at hv;let c1:(jB (ae aP (ae au (jV 6) (jC (.int 1))) (jV 5))) [A0,A1,.al\↥j,.al\.dt W,.al\L,.al\↥n,.al\ck s]=some (decide (s.2=(n:Int))):=by
    ac_rfl
  unfold xV;rw[bE (by
    unfold cP;rw[c1,oq];by_cases ot:s.2=(n:Int)
    · rw[if_pos (dP ot)]
      by_cases h1:s.1=-1
      · exfalso
        have:s=(-1,0):=by
          rcases dN.mp hs with z|z
          · exact z
          · let⟨k,_,hk⟩:=F7.mp z
            let⟨m,_,rfl⟩:=bP.mp hk;have:((k:Nat):Int)=-1:=h1;omega
        rw[this]at ot;have:(0:Int)=(n:Int):=ot;omega
      · let⟨p,m,rfl,fI⟩:=Mv g hs h1
        obtain rfl:m=n:=Int.ofNat_inj.mp ot;let mW:p<rs.length:=by let⟨_,z,_⟩:=fI;exact(a9.mp z).1
        let hPx:P p j=false:=by
          cases hp:P p j with
          |false=>rfl
          |true=>exact absurd (f9.step hr mY fI ((hP p j mW hj).mp hp)) hM
        let hf:cC P (kn rs).length ((p:Int),(m:Int)).1=bI (λj=>true&&!P p j) (kn rs).length:=by
          show cC P (kn rs).length (p:Int)=_;unfold cC;rw[if_neg ∅];simp
        rw[hf]at hv;let hb:=N2 (m:=bf .al) (n:=.al) (m':=.fr) (p:=λj=>true&&!P p j) hj;simp! [jB,ae,jn,jV,jC,gz,gy,id_eq,oq,lE,uY,hv];rw[hb,hPx];rfl
    · rw[if_neg (by rw[eQ ot];exact bx)])]
  rfl
def YX(g:Good rs){P:Nat→Nat→Bool}(hP:∀n j,n<rs.length→j<(kn rs).length→(P n j=true↔f9 rs j n)){j:Nat}{q:De}(hq:(kn rs)[j]?=some q){n:Nat}(hn:n<rs.length)(hM:¬f9 rs j n) :
  ud [Row.d∘rs,ao q,↥j,.dt (cR (aJ rs rs.length) (cC P (kn rs).length)),.lst (aT (aJ rs rs.length)),↥n]=some (.fr,.bl true):=by
 let⟨r,hr⟩:=rg hn;let ar:=jS hr;let hc:dD (sets r) q=false:=by
  cases hx:dD (sets r) q with
  |false=>rfl
  |true=>exact absurd (f9.chg hr (by rw[zt hq];exact hx)) hM
 unfold ud fn Jl;simp only[cv,bD,bG];rw[av (e':=[.al\Row.d∘rs,.al\ao q,.al\↥j,.al\.dt (cR (aJ rs rs.length) (cC P (kn rs).length)),.al\.lst (aT (aJ rs rs.length)),.al\↥n,none]) (by
  rw[bE (by
   let e1:decide ((n:Int)=-1)=false:=eQ ∅;simp! [cI,jB,aC,ae,cj,ag,ai,jV,jC,gz,gy,id_eq,oq,lz,iT,e1,cZ,ar,oy,mq,mn,DC,bN,hc];rfl)]
  rfl)]
 let c1:(jB (aC oS (ag (ae au (jV 0) (jV 5)) (ag (jV 1) ai)))) [.al\Row.d∘rs,.al\ao q,.al\↥j,.al\.dt (cR (aJ rs rs.length) (cC P (kn rs).length)),.al\.lst (aT (aJ rs rs.length)),.al\↥n,none]=some (decide (b9 r=some q)):=by
  ac_rfl
 by_cases hd:b9 r=some q
 ·rw[dJ (by rw[bF (c1.trans (de some (dP hd)))];rfl)];rfl
 let mY:fX (kn rs) r j=true:=by rw[vk hq,eQ hd];rfl
 let h0:n≠0:=λz=>hM (.start hr z mY);rw[av (by rw[bE (c1.trans (de some (eQ hd)))];rfl)];let⟨e',l1,o6,he⟩:=du (g:=gN 6) (b:=xV) (m:=.al) (ds:=aT (aJ rs rs.length)) (e:=[.al\Row.d∘rs,.al\ao q,.al\↥j,.al\.dt (cR (aJ rs rs.length) (cC P (kn rs).length)),.al\.lst (aT (aJ rs rs.length)),.al\↥n,none])
  (λ_ e=>∃o6,e=[.al\Row.d∘rs,.al\ao q,.al\↥j,.al\.dt (cR (aJ rs rs.length) (cC P (kn rs).length)),.al\.lst (aT (aJ rs rs.length)),.al\↥n,o6]) ⟨none,rfl⟩
  (λi d e hd bu=>by
   let⟨o6,he⟩:=bu;subst he;let⟨s,hs,rfl⟩:=nD hd;exact⟨_,_,rfl,abz g hP hq hr mY h0 hM (dO hs),_,rfl⟩)
 subst he;rw[av (by
  rw[bT,show aZ 4 [.al\Row.d∘rs,.al\ao q,.al\↥j,.al\.dt (cR (aJ rs rs.length) (cC P (kn rs).length)),.al\.lst (aT (aJ rs rs.length)),.al\↥n,none]=[.al\Row.d∘rs,.al\ao q,.al\↥j,.al\.dt (cR (aJ rs rs.length) (cC P (kn rs).length)),.al\.lst (aT (aJ rs rs.length)),.al\↥n,none] from rfl];simp! [aU,bK,jV,gz,gy,id_eq,oq,cf,oy];exact l1)]
 rfl
end
def adp(ns:Qxk):(J.cut ns (some 2) (some 22)).length≤20:=by
 unfold J.cut;rw[lH,List.length_drop];unfold HT.bj;simp;omega
theorem KW{f:Int×Int→D}:∀l:List (Int×Int),r9 (l.map λq=>(pK q,f q))=some l
 |[]=>rfl
 |q::l=>by
  rw[mq];show(r9 _).bind _=_;rw[KW l];rfl
theorem KY:∀l:List (Int×Int),r6 (aT l)=some l
 |[]=>rfl
 |q::l=>by
  show(r6 (aT l)).bind _=_;rw[KY l];rfl
def sorts{m:M}{f:Int→D}{l:List (Int×Int)}(h:l.Nodup):nE [(.bo,.dt (cR l f))]=kO l∧nE [(m,.lst (aT l))]=kO l:=by
 constructor
 ·show(if own .bo=true∨M.bo=.un then (r9 (cR l f)).bind kO else none)=_;rw[if_pos (.inl rfl),N3 h,KW (f:=λq=>f q.1)];rfl
 ·show(r6 (aT l)).bind kO=_;rw[KY];rfl
section
variable {rs:List Row}{P:Nat→Nat→Bool}{A0:Qzq}
@[reducible]def Wd(rs:List Row)(P:Nat→Nat→Bool):List (List Key×D):=cR (aJ rs rs.length) (cC P (kn rs).length)
def abA(P:Nat→Nat→Bool)(K:Nat)(n:Int):∃x:Nat,cC P K n=↥x∧x<2^K:=by
 unfold cC;split
 ·exact⟨0,rfl,Nat.two_pow_pos K⟩
 ·exact⟨_,rfl,yW _ K⟩
def abB(g:Good rs)(hl:rs.length≤300){q:Int×Int}(hq:q∈aJ rs rs.length):yB [A0,.bo\Row.d∘rs,.fr\.lst (aT (aJ rs rs.length)),.bo\.lst ((kn rs).map ao),.bo\.dt (Wd rs P),.fr\ck q,none,none,none]=some (.nx [A0,.bo\Row.d∘rs,.fr\.lst (aT (aJ rs rs.length)),.bo\.lst ((kn rs).map ao),.bo\.dt (Wd rs P),.fr\ck q,none,none,none]):=by
 let hk:=rG rs;let hv:=Ex (P:=P) g hq;let⟨x,hx,aX⟩:=abA P (kn rs).length q.1;rw[hx]at hv;let e1:decide ((0:Int)≤(x:Int))=true:=dP ∅;let e2:decide ((x:Int)<((2^(kn rs).length:Nat):Int))=true:=dP (Int.ofNat_lt.mpr aX);unfold yB;rw[bE (by
  simp! [cI,eO,jB,aL,jn,nB,ae,ag,ai,jV,jC,gz,gy,id_eq,oq,lE,uY,hv,CL,bN,El,e1,if_true,dE,ln,DK (show(kn rs).length≤1000 by omega),Ek,e2];rfl)]
 rfl
def WX{q:De}:oQ [Row.d∘rs,ao q,.lst [],.int (-1)]=some (.fr,.bl true):=by
 unfold oQ fn CK;simp only[cv,bD,bG];rw[fU (by rfl)];rw[dJ (by
  rw[bF (by infer_instance)];rfl)]
 rfl
def abC(g:Good rs)(hl:rs.length≤300)(hP:∀n j,n<rs.length→j<(kn rs).length→(P n j=true↔f9 rs j n)){j:Nat}{d:De}(hd:(kn rs)[j]?=some d){q:Int×Int}(hq:q∈aJ rs rs.length)(o8:Qzq) :
  ∃eW,uH [A0,.bo\Row.d∘rs,.fr\.lst (aT (aJ rs rs.length)),.fr\.lst ((kn rs).map ao),.bo\.dt (Wd rs P),.fr\ck q,.fr\↥j,.fr\ao d,o8]=some (.nx [A0,.bo\Row.d∘rs,.fr\.lst (aT (aJ rs rs.length)),.fr\.lst ((kn rs).map ao),.bo\.dt (Wd rs P),.fr\ck q,.fr\↥j,.fr\ao d,eW]):=by
 let hj:j<(kn rs).length:=(a9.mp hd).1;let hv:=Ex (P:=P) g hq;let fin:∀{b:Bool}{w:D}{mw tJ:M},(jB (ae aP (ae gX (ae mM (jn (jV 4) (jV 5)) (jV 6)) (jC (.int 1))) (jC (.int 0)))) [A0,.bo\Row.d∘rs,.fr\.lst (aT (aJ rs rs.length)),.fr\.lst ((kn rs).map ao),.bo\.dt (Wd rs P),.fr\ck q,.fr\↥j,.fr\ao d,some (tJ,w)]=some b →
   oP [Row.d∘rs,↥j,ck q]=some (mw,w)→nC (mw,w)=some (tJ,w) →
   (b=true→oQ [Row.d∘rs,ao d,w,.int q.1]=.fr\.bl true)→(b=false→w=.non∧ud [Row.d∘rs,ao d,↥j,.dt (Wd rs P),.lst (aT (aJ rs rs.length)),.int q.1]=.fr\.bl true) →
   ∃eW,uH [A0,.bo\Row.d∘rs,.fr\.lst (aT (aJ rs rs.length)),.fr\.lst ((kn rs).map ao),.bo\.dt (Wd rs P),.fr\ck q,.fr\↥j,.fr\ao d,o8]=some (.nx [A0,.bo\Row.d∘rs,.fr\.lst (aT (aJ rs rs.length)),.fr\.lst ((kn rs).map ao),.bo\.dt (Wd rs P),.fr\ck q,.fr\↥j,.fr\ao d,eW]):=λ{b w mw tJ} hc e hs h1 h2=>by
  refine⟨some (tJ,w),?_⟩;unfold uH;rw[av (e':=[A0,.bo\Row.d∘rs,.fr\.lst (aT (aJ rs rs.length)),.fr\.lst ((kn rs).map ao),.bo\.dt (Wd rs P),.fr\ck q,.fr\↥j,.fr\ao d,some (tJ,w)]) (by ac_rfl)];cases b with
  |true =>
   rw[bF hc,bE (by
    simp! [eO,jB,aC,ag,ai,ae,jV,jC,gz,gy,id_eq,oq,p0,mq,mn,h1 rfl,bN,oy,Bool.not_true])]
   rfl
  |false =>
   let⟨rfl,h2⟩:=h2 rfl;rw[bE hc,bE (by
    simp! [cI,eO,jB,aC,ag,ai,ae,jV,jC,gz,gy,id_eq,oq,abn,p0,mq,mn,h2,bN,oy,Bool.not_true];rfl)]
   rfl
 by_cases h1:q.1=-1
 ·let hf:cC P (kn rs).length q.1=.int 0:=if_pos h1;rw[hf]at hv;refine fin (b:=true) (w:=.lst []) (mw:=.un) (tJ:=.bo) ?_ ?_ rfl (λ_=>by rw[h1];exact WX) (λz=>nomatch z)
  ·simp! [jB,ae,jn,jV,jC,gz,gy,id_eq,oq,lE,uY,hv];rw[M3 ∅,oq,Int.zero_ediv];rfl
  ·unfold oP fn CH;simp only[cv,bD,bG];rw[dJ (by
    rw[bF (by infer_instance)];rfl)]
   rfl
 ·let⟨n,m,rfl,fI⟩:=Mv g hq h1;let hn:n<rs.length:=by let⟨_,z,_⟩:=fI;exact(a9.mp z).1
  let hf:cC P (kn rs).length ((n:Int),(m:Int)).1=bI (λj=>true&&!P n j) (kn rs).length:=by
   show cC P (kn rs).length (n:Int)=_;unfold cC;rw[if_neg ∅];simp
  rw[hf]at hv;let hb:=N2 (m:=bf .bo) (n:=.fr) (m':=.fr) (p:=λj=>true&&!P n j) hj;let hc:∀{x:Qzq},(jB (ae aP (ae gX (ae mM (jn (jV 4) (jV 5)) (jV 6)) (jC (.int 1))) (jC (.int 0)))) [A0,.bo\Row.d∘rs,.fr\.lst (aT (aJ rs rs.length)),.fr\.lst ((kn rs).map ao),.bo\.dt (Wd rs P),.fr\ck ((n:Int),(m:Int)),.fr\↥j,.fr\ao d,x]=some (P n j):=λ{x}=>by
   simp! [jB,ae,jn,jV,jC,gz,gy,id_eq,oq,lE,uY,hv];rw[hb];simp! [oq,iT,bN];cases P n j<;>rfl
  rcases abt g hl hd (a:=(m:Int)) hn with⟨Bk,l,e,hB,Cz,TH⟩|⟨e,mY⟩
  ·let hM:=Jq hB hd Cz.1 Cz.2.1 Cz.2.2.1 TH hn;let hp:=(hP n j hn hj).mpr hM;exact fin (hc.trans (de some hp)) e rfl (λ_=>Vs g hl hB Cz TH hn) (λz=>nomatch z)
  ·let hp:P n j=false:=by
    cases hx:P n j with
    |false=>rfl
    |true=>exact absurd ((hP n j hn hj).mp hx) mY
   exact fin (hc.trans (de some hp)) e rfl (λz=>nomatch z) (λ_=>⟨rfl,YX g hP hd hn mY⟩)
end
def WY(ns:Qxk)(hn:ns.length≤63):∃m,zq [.int∘ns]=some (m,.bl true):=by
 let⟨rs,e1,g,hl,Bc⟩:=UH ns (J.cut ns (some 2) (some 22)) (adp ns);let⟨P,e4,hP⟩:=Ui g ∅;let e4:uc [Row.d∘rs]=some (.un,.dt (Wd rs P)):=e4;let e2:=abm (rs:=rs) ∅;let e3:=WT (rs:=rs) ∅;let eM:ya [.int∘ns]=some (.un,Row.d∘rs):=by
  unfold ya fn Jk;simp only[cv,bD,bG];simp! [aF,aC,ag,ai,gR,gx,jV,jC,gz,id_eq,oq,lj,oy,DI,mq,mn,e1,uO]
 let⟨x1,l1,o5,h1⟩:=du (g:=gN 5) (b:=yB) (m:=.fr) (ds:=aT (aJ rs rs.length)) (e:=[.al\.int∘ns,.bo\Row.d∘rs,.fr\.lst (aT (aJ rs rs.length)),.bo\.lst ((kn rs).map ao),.bo\.dt (Wd rs P),none,none,none,none])
  (λ_ e=>∃o5,e=[.al\.int∘ns,.bo\Row.d∘rs,.fr\.lst (aT (aJ rs rs.length)),.bo\.lst ((kn rs).map ao),.bo\.dt (Wd rs P),o5,none,none,none]) ⟨none,rfl⟩
  (λi d e hd bu=>by
   let⟨o5,he⟩:=bu;subst he;let⟨q,hq,rfl⟩:=nD hd;exact⟨_,_,rfl,abB g ∅ (dO hq),_,rfl⟩)
 subst h1;let⟨x2,l2,dm,o6,o7,o8,h2⟩:=du (g:=gT 2 (bR (gN 6) (bR (gN 7) dX))) (b:=DB) (m:=.fr) (ds:=bY ((kn rs).map ao)) (e:=[.al\.int∘ns,.bo\Row.d∘rs,.fr\.lst (aT (aJ rs rs.length)),.fr\.lst ((kn rs).map ao),.bo\.dt (Wd rs P),o5,none,none,none])
  (λ_ e=>∃o5 o6 o7 o8,e=[.al\.int∘ns,.bo\Row.d∘rs,.fr\.lst (aT (aJ rs rs.length)),.fr\.lst ((kn rs).map ao),.bo\.dt (Wd rs P),o5,o6,o7,o8]) ⟨o5,none,none,none,rfl⟩
  (λj d e hd bu=>by
   let⟨o5,o6,o7,o8,he⟩:=bu;subst he;let⟨dq,hdq,rfl⟩:=KJ hd;let⟨x3,l3,dm,eW,h3⟩:=du (g:=gN 5) (b:=uH) (m:=.fr) (ds:=aT (aJ rs rs.length)) (e:=[.al\.int∘ns,.bo\Row.d∘rs,.fr\.lst (aT (aJ rs rs.length)),.fr\.lst ((kn rs).map ao),.bo\.dt (Wd rs P),o5,.fr\↥j,.fr\ao dq,o8])
    (λ_ e=>∃o5 o8,e=[.al\.int∘ns,.bo\Row.d∘rs,.fr\.lst (aT (aJ rs rs.length)),.fr\.lst ((kn rs).map ao),.bo\.dt (Wd rs P),o5,.fr\↥j,.fr\ao dq,o8]) ⟨o5,o8,rfl⟩
    (λi d e hd bu=>by
     let⟨o5,o8,he⟩:=bu;subst he;let⟨q,hq,rfl⟩:=nD hd;let⟨eW,w⟩:=abC (A0:=.al\.int∘ns) g ∅ hP hdq (dO hq) o8;exact⟨_,_,rfl,w,_,eW,rfl⟩)
   subst h3;refine⟨[.al\.int∘ns,.bo\Row.d∘rs,.fr\.lst (aT (aJ rs rs.length)),.fr\.lst ((kn rs).map ao),.bo\.dt (Wd rs P),o5,.fr\↥j,.fr\ao dq,o8],_,rfl,?_,dm,.fr\↥j,.fr\ao dq,eW,rfl⟩;unfold DB;rw[bT,show aZ 2 [.al\.int∘ns,.bo\Row.d∘rs,.fr\.lst (aT (aJ rs rs.length)),.fr\.lst ((kn rs).map ao),.bo\.dt (Wd rs P),o5,.fr\↥j,.fr\ao dq,o8]=[.al\.int∘ns,.bo\Row.d∘rs,.fr\.lst (aT (aJ rs rs.length)),.fr\.lst ((kn rs).map ao),.bo\.dt (Wd rs P),o5,.fr\↥j,.fr\ao dq,o8] from rfl];simp! [aU,bK,jV,gz,gy,id_eq,oq,cf,oy];exact l3)
 subst h2;refine⟨.fr,?_⟩;unfold zq fn OO;simp only[cv,bD,bG];let cl:∀{F:Qqk}{d:D}{e:Ev}{k i:Nat}{x:D}{mm:M},F [x]=some (.un,d)→e[i]?=some (some (mm,x))→ax k (aC F (ag (jV i) ai)) e=some (.nx (e.set k (.bo\d))):=λ{F d e k i x mm} h1 h2=>by
  simp! [ax,aC,ag,ai,jV,h2,id_eq,oq,mq,mn,h1,mv]
 rw[av (cl eM rfl),av (cl e2 rfl),av (cl e3 rfl),av (cl e4 rfl)];simp! [tz,tq];rw[av (e':=[.al\.int∘ns,.bo\Row.d∘rs,.bo\.lst (aT (aJ rs rs.length)),.bo\.lst ((kn rs).map ao),.bo\.dt (Wd rs P),none,none,none,none]) (by
  let⟨s1,s2⟩:=sorts (m:=.bo) (f:=cC P (kn rs).length) (Ea g rs.length);rw[bE (by
   simp! [cI,eO,jB,aL,ae,ag,ai,jV,jC,gz,gy,id_eq,oq,show jw [(M.bo,D.dt (Wd rs P)),(.fr,.ty "dict")]=some (.fr,.bl true)from rfl,bN,oy,Bool.not_true,Bool.false_eq_true,if_false,s2];rw[show nE [(M.bo,D.dt (Wd rs P))]=kO (aJ rs rs.length)from s1,show kO (aJ rs rs.length)=some (.un,.lst (aT ((fY (aJ rs rs.length)).map λi=>(aJ rs rs.length).getD i (0,0)))) by unfold kO;rw[if_pos Bc,aT,gY];rfl,oq,oq,aa6 (Vl _) (Vm _)];rfl)]
  rfl)]
 rw[av (by
  rw[bT,show aZ 2 [.al\.int∘ns,.bo\Row.d∘rs,.bo\.lst (aT (aJ rs rs.length)),.bo\.lst ((kn rs).map ao),.bo\.dt (Wd rs P),none,none,none,none]=[.al\.int∘ns,.bo\Row.d∘rs,.fr\.lst (aT (aJ rs rs.length)),.bo\.lst ((kn rs).map ao),.bo\.dt (Wd rs P),none,none,none,none] from rfl];simp! [aU,bK,jV,gz,gy,id_eq,oq,cf,oy];exact l1)]
 rw[av (by
  rw[bT,show aZ 3 [.al\.int∘ns,.bo\Row.d∘rs,.fr\.lst (aT (aJ rs rs.length)),.bo\.lst ((kn rs).map ao),.bo\.dt (Wd rs P),o5,none,none,none]=[.al\.int∘ns,.bo\Row.d∘rs,.fr\.lst (aT (aJ rs rs.length)),.fr\.lst ((kn rs).map ao),.bo\.dt (Wd rs P),o5,none,none,none] from rfl];simp! [aU,gj,ag,jV,ai,gz,gy,oq,id_eq,cf,oy];exact l2)]
 rfl
end aN
namespace aN
open PySem PySem.Spec L2 My J
def walk {l:PySem.W.OpenLaw}{q:Program}{loose:Qjz}{XP:(Str→Option Value)→Heap→Prop}{YP:World→Heap→Prop}{d:DefRec}{K:Params→Qzk} (hn:l.most=some 63) (wd:d.params.defaults=[]) (hd:d.name = "law")
  (hY:∀(w:World) (h:Heap),YP w h→(K w.params).In h) (F:∀(w:World),C.Bw (K w.params) zU∧C.Bx (K w.params) bs∧C.By (K w.params) gs) :
  PySem.W.WalkO q loose XP YP l.row.toRowW d [] (λf vs=>PySem.call f vs) :=
 L2.Xn (n:=63) (k:=7) (x := "_law_script") (CX:=λ_=>m7) (sp:=λw=>qm (K w.params) 1 zq) hn (by decide) wd ⟨rfl,by decide,by decide⟩ hY (λw mg fa h X G Hr=>C.acy X G (hd▸Hr) (F w).2.1 (F w).2.2 (F w).1 ba ok e47 λ_ _ _ _ _ _ _ _=>.of_eq rfl) (λ_ _ a ns hl _ hS=>aao hS (WY ns hl)) λ_ _ _ _ _ z=>z
end aN
namespace PySem.W.Fast
def tw7925397434259134285:=0
def tw18037051842407615825:=0
def tw11805383266834872840:=0
def tw7722467472550412595:=0
def tw6837177662393992049:=0
def tw14170517855120613599:=0
def tw5022189986850933185:=0
def tw8747041191634225074:=0
def tw17064122075007918477:=0
def tw3022809286636116431:=0
def tw12377087996068402444:=0
def tw7315705349937368908:=0
def tw17233922921232475372:=0
def tw4132437356633066594:=0
def tw6471304396031923585:=0
def tw12284160962536254524:=0
def tw17397379166226545927:=0
def tw17436784701608011147:=0
def tw13351377484862663822:=0
def tw5129838823044015040:=0
def tw13738100748227472183:=0
def tw12844586357482710570:=0
def tw18269883641298792376:=0
def tw8072002056474874111:=0
def tw17870927287883209873:=0
def tw11257166251727479557:=0
def tw678006437904466487:=0
def tw17763065045178597793:=0
def tw5211102893719318133:=0
def tw4588671604651914060:=0
def tw17646271340470152510:=0
def tw10095390948571771595:=0
def tw364217857332004154:=0
def tw1019196264803731638:=0
def tw12792565935954609283:=0
def tw4825736066384979705:=0
def tw5905552990176004170:=0
def tw13879146167926485633:=0
def tw14392762118704768893:=0
def tw9474013445334860372:=0
def tw11776264816912321336:=0
def tw64138383225709296:=0
def tw8375916510772397638:=0
def tw1319793286889056856:=0
def tw5963303691407879947:=0
def tw9458952477243220672:=0
def tw7963212803345735459:=0
def tw13635269436672236448:=0
def tw3830202075830511770:=0
def tw2930908655793009361:=0
def tw13257038601338828808:=0
def tw10218122622255480648:=0
def tw2124034933346346480:=0
def tw11274774421593149117:=0
def tw13852796512563711396:=0
def tw16031119995306276016:=0
def tw15109611869604926367:=0
def tw8325917651020634393:=0
def tw9087828928292541754:=0
def tw12841517547949022930:=0
def tw8852694305178563587:=0
def tw7978522459860179436:=0
def tw18047479929315152757:=0
def tw7309094148530299449:=0
def tw3748921440503414040:=0
def tw11897220729287232029:=0
def tw949331395411199097:=0
def tw17809318934189022112:=0
def tw3620702038017937865:=0
def tw4090943363518985726:=0
def tw7049004103269070712:=0
def tw13528516142344216250:=0
def tw11034339577348482765:=0
def tw14674286369294980044:=0
def tw15712569698217538747:=0
def tw12206683576417229952:=0
def tw387476548600883547:=0
def tw1236708227065526896:=0
def tw916697008921419196:=0
def tw7091459148850739145:=0
def tw3957120990973811953:=0
def tw2428761983263267727:=0
def tw1780259350095367658:=0
def tw1350947837495232468:=0
def tw184645730147428979:=0
def tw14446729622168966017:=0
def tw8347250356226702822:=0
def tw9691030014264322144:=0
def tw17649174794222343864:=0
def tw1119124439838006382:=0
def tw10299705531673272782:=0
def tw16432623293572158613:=0
def tw16618061625935662431:=0
def tw2663047041447565769:=0
def tw13027758967963008696:=0
def tw9010194056566733601:=0
def tw4612898511748857491:=0
def tw4283108085785627825:=0
def tw9316360518119914278:=0
def tw16656142833968136666:=0
def tw8171633757161031116:=0
def tw13527714832931538881:=0
def tw2684122886793535488:=0
def tw4279327378512388333:=0
def tw16137605179216671891:=0
def tw9433748204803022686:=0
def tw665635138719264362:=0
def tw14127129959887603402:=0
def tw12321919236521053141:=0
def tw13879145463530053290:=0
def tw7605018659870931785:=0
def tw2605312997004897071:=0
def tw12454011534720700625:=0
def tw4262634743559189093:=0
def tw10544068849704417112:=0
def tw5300935279424110487:=0
def tw7234721292154540025:=0
def tw17161462692629388355:=0
def tw16617643652902674014:=0
def tw12974541637534083339:=0
def tw11104729850309307465:=0
def tw17466633638301525771:=0
def tw8011206295477912088:=0
def tw10845013233470822248:=0
def tw7909180825149530738:=0
def tw15048590774136022116:=0
def tw10565821425275462625:=0
def tw7492514073025586104:=0
def tw9208195139199530709:=0
def tw16705599088450274058:=0
def tw6022570403667869215:=0
def tw11558836410978268113:=0
def tw13832811942438892645:=0
def tw3037719121955459918:=0
def tw18167623694628956975:=0
def tw5748808538528303332:=0
def tw10470433788346956153:=0
def tw7803158802613153578:=0
def tw4631074875321292401:=0
def tw15540598145490505622:=0
def tw18280830757256582105:=0
def tw12951822960997632370:=0
def tw16775248166989711038:=0
def tw2662822137581017002:=0
def tw3268826603322643547:=0
def tw15991195910045600199:=0
def tw5983491247254667478:=0
def tw15109550334826803127:=0
def tw3874360504011788471:=0
def tw10836659671294895307:=0
def tw12738948897936872428:=0
def tw3266718215580141893:=0
def tw8432220870315805667:=0
def tw3256903926138132670:=0
def tw4161853919928342959:=0
def tw3487849074698489089:=0
def tw8708444047763879749:=0
def tw7594318044124094424:=0
def tw17694296645159525705:=0
def tw6970754055739507719:=0
def tw10982734522275889705:=0
def tw6454947237277849793:=0
def tw15209877706571439911:=0
def tw11280821228416557253:=0
def tw7189526284708039760:=0
def tw16444891105647373840:=0
def tw11442533307722734860:=0
def tw17189127455251683244:=0
def tw1932412233696339235:=0
def tw2082195521875891105:=0
def tw8014927521097909501:=0
def tw11743737691664385894:=0
def tw1492277714411286186:=0
def tw16420882207723075811:=0
def tw1850835174946459495:=0
def tw12132160573557720062:=0
def tw7099665824644673290:=0
def tw11567680248309117388:=0
def tw17627418060500983398:=0
def tw5998081009182543564:=0
end PySem.W.Fast
open PySem PySem.W PyProof.Rows
set_option maxRecDepth 100000 in
set_option maxHeartbeats 0 in
theorem PySem.Challenge.cw_lazyhoist_k33_whole_standing_or_a_way_holds : PySem.Challenge.rw_lazyhoist_k33_whole_standing_or_a_way.Holds := by
  w_on; o_law; k_head; (case hw => w_witness2)
  k_fill
  refine aN.walk (l := PySem.Challenge.rw_lazyhoist_k33_whole_standing_or_a_way) rfl rfl rfl (λw h Y => PySem.W.kIn_of Y) ?F
  case F =>
    intro w;refine ⟨⟨(?_:C.DE _ "law" (aN.top 52) none), (?_:C.DE _ "_law_came" (aN.top 51) none), (?_:C.DE _ "_law_walked" (aN.top 50) none), (?_:C.DE _ "_law_made" (aN.top 49) none), (?_:C.DE _ "_law_known" (aN.top 48) none), (?_:C.DE _ "_law_changes" (aN.top 47) none), (?_:C.DE _ "_law_has" (aN.top 46) none), (?_:C.DE _ "_law_places" (aN.top 45) none), (?_:C.DE _ "_law_program" (aN.top 43) none), (?_:C.DE _ "_law_any_program" (aN.top 42) none), (?_:C.DE _ "_law_mended" (aN.top 41) none), (?_:C.DE _ "_law_comes_to" (aN.top 40) none), (?_:C.DE _ "_law_followers" (aN.top 44) none), (?_:C.DE _ "_law_any_row" (aN.top 39) none), (?_:C.DE _ "_law_stairs" (aN.top 38) none), (?_:C.DE _ "_law_with_else" (aN.top 37) none), (?_:C.DE _ "_law_with_while" (aN.top 36) none), (?_:C.DE _ "_law_goal" (aN.top 35) none), (?_:C.DE _ "_law_rough" (aN.top 33) none), (?_:C.DE _ "_law_number" (aN.top 34) none), (?_:C.DE _ "_law_last" (aN.top 32) none), (?_:C.DE _ "_law_row" (aN.top 31) none), (?_:C.DE _ "_law_deeds" (aN.top 30) none), (?_:C.DE _ "_law_operand" (aN.top 29) none), (?_:C.DE _ "_law_names" (aN.top 28) none), (?_:C.DE _ "_law_is_free" (aN.top 27) none), (?_:C.DE _ "_law_mixed" (aN.top 26) none), (?_:C.DE _ "_law_cell" (aN.top 25) none), (?_:C.DE _ "unstanding" (aN.top 23) none), (?_:C.DE _ "standing" (aN.top 21) none), (?_:C.DE _ "unstanding_bits" (aN.top 22) none), (?_:C.DE _ "shortest_way" (aN.top 17) none), (?_:C.DE _ "way_back" (aN.top 19) none), (?_:C.DE _ "next_layer" (aN.top 18) none), (?_:C.DE _ "spread" (aN.top 15) none), (?_:C.DE _ "changed_bits" (aN.top 14) none), (?_:C.DE _ "reckoned_bits" (aN.top 13) none), (?_:C.DE _ "every_bit" (aN.top 12) none), (?_:C.DE _ "bits_of" (aN.top 11) none), (?_:C.DE _ "turned" (aN.top 9) none), (?_:C.DE _ "reckonings" (aN.top 8) none), (?_:C.DE _ "places" (aN.top 7) none), (?_:C.DE _ "all_followers" (aN.top 6) none), (?_:C.DE _ "followers" (aN.top 5) none), (?_:C.DE _ "changes" (aN.top 3) none), (?_:C.DE _ "sets" (aN.top 2) none), (?_:C.DE _ "reckoning_of" (aN.top 1) none), trivial⟩, ⟨?qz0, ?qz1, ?qz2, ?qz3, ?qz4, ?qz5, ?qz6, ?qz7, ?qz8, ?qz9, ?aen, ?aeo, trivial⟩, trivial⟩
    iterate 47 (refine' C.ad4 ?a ?l ?c ?k; (case a => k_is); (case l => k_is); (case c => k_is); (case k => k_is))
    case qz0 => (show PySem.W.nsIn _ mainGlobals "bool" = some none); k_is
    case qz1 => (show PySem.W.nsIn _ mainGlobals "dict" = some none); k_is
    case qz2 => (show PySem.W.nsIn _ mainGlobals "enumerate" = some none); k_is
    case qz3 => (show PySem.W.nsIn _ mainGlobals "int" = some none); k_is
    case qz4 => (show PySem.W.nsIn _ mainGlobals "isinstance" = some none); k_is
    case qz5 => (show PySem.W.nsIn _ mainGlobals "len" = some none); k_is
    case qz6 => (show PySem.W.nsIn _ mainGlobals "list" = some none); k_is
    case qz7 => (show PySem.W.nsIn _ mainGlobals "max" = some none); k_is
    case qz8 => (show PySem.W.nsIn _ mainGlobals "range" = some none); k_is
    case qz9 => (show PySem.W.nsIn _ mainGlobals "set" = some none); k_is
    case aen => (show PySem.W.nsIn _ mainGlobals "sorted" = some none); k_is
    case aeo => (show PySem.W.nsIn _ mainGlobals "sum" = some none); k_is
