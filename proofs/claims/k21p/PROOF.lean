import PyProof.Rows.All
import Wide.All
import OpenK.AllK
import Wide.FinOn
import Lean
import PyProof.EqAt
import PyProof.EqKinds
import PyProof.TupleCall
import PySem.Challenge.RW_lazyhoist_k21_whole_runs_row_by_row
set_option Elab.async false
set_option linter.all false
set_option maxRecDepth 100000
def av:=@PySem.wpAny_bind
def aB:=@Option.bind_some
def aO:=@PySem.wpAny_pure
def aR:=@Nat.le_refl
def aU:=@List.length_map
def aZ:=@Bool.false_ne_true
def bt:=@List.getElem?_eq_some_iff
def bu:=@of_decide_eq_true
def bz:=@PySem.Heap.lt_size
def bF:=@List.map_cons
def bO:=@List.getElem?_eq_getElem
def bQ:=@Nat.le_trans
def b9:=@List.length_append
def cy:=@PySem.Heap.get?_push_of_some
def cz:=@List.length_cons
def cA:=@PySem.SeqAt.room_here
def cE:=@List.getElem?_map
def cJ:=@PySem.Paired.length
def cK:=@Nat.ne_of_lt
def cL:=@List.mem_cons_self
def cP:=@congrArg
def cQ:=@Int.emod_nonneg
def cT:=@List.mem_cons_of_mem
def cU:=@List.getElem?_set_ne
def c9:=@Option.some.inj
def de:=@List.mem_map
def dh:=@List.map_append
def di:=@Int.emod_lt_of_pos
def dI:=@Nat.lt_of_lt_of_le
def dJ:=@Nat.lt_of_le_of_lt
def eU:=@PySem.Heap.get?_push_size
def fA:=@PySem.wpAny_mono
def fB:=@List.mem_of_getElem?
def fC:=@List.isEmpty_iff
def fJ:=@decide_eq_false
def fK:=@List.mem_cons
def fL:=@decide_eq_true
def fX:=@List.mem_append
def fY:=@List.size_toArray
def gx:=@Bool.and_eq_true
def hG:=@List.length_set
def hJ:=@Nat.lt_or_ge
def iO:=@PySem.wpAny_truthy_bool
def iP:=@List.mem_append_right
def iQ:=@List.nodup_cons
def jA:=@Nat.lt_irrefl
def jD:=@Ne.symm
def jE:=@List.all_cons
def jF:=@List.all_eq_true
def jG:=@List.getElem?_eq_none
def kH:=@List.length_take
def kJ:=@PySem.wpAny_newObj_type
def kK:=@List.lookup_cons
def lS:=@PySem.wpAny_holding
def lT:=@PySem.mem_of_lookup
def lU:=@List.getElem?_append_left
def lV:=@List.drop_eq_getElem_cons
def lW:=@PySem.W.kia_one
def lX:=@List.getElem_map
def oT:=@PySem.wpAny_call_entry
def oU:=@PySem.wpAny_passesOwn
def oV:=@List.append_nil
def oW:=@Nat.zero_le
def qR:=@PySem.SeqAt.EqAt.same
def qS:=@PyProof.Rows.slot_tuple_getitem
def qT:=@PySem.call_meetsIn
def qU:=@Nat.le_of_eq
def qV:=@List.getD_eq_getElem?_getD
def qW:=@List.getElem_mem
def qX:=@List.cons.inj
def qY:=@List.getElem?_mapIdx
def ug:=@List.mem_range
def uh:=@List.mem_append_left
def ui:=@List.any_cons
def uj:=@PySem.Calls.callWith_builtin
def uk:=@List.length_nil
def um:=@PySem.tupleKind_room_in1
def uq:=@PySem.F.slot_dict_keyiterator_next
def ur:=@Classical.choose_spec
def uv:=@PySem.W.mg_of
def xS:=@PySem.typeIs_none
def xT:=@PySem.F.slot_NoneType_hash
def xU:=@PySem.wpAny_execs_nil
def xV:=@PySem.wpAny_standAt
def xW:=@PyProof.Rows.callWith_type1
def xX:=@Bool.eq_iff_iff
def xY:=@PySem.sizeLine_eq
def xZ:=@PySem.Calls.spliced_cons
def x4:=@PySem.concat_meets
def x5:=@PySem.wpAny_callSpecial?_slot
def x6:=@List.replicate_succ
def x8:=@List.flatten_cons
def x9:=@PySem.wpAny_typeNameOfWhole_keyiter
def ya:=@PySem.wpAny_typeNameOf_keyiter
def yb:=@PySem.SeqAt.room_in
def yc:=@PySem.wpAny_getItem_str_slice
def yd:=@PySem.post_val_or_str
def ye:=@PySem.Txt.slice_le
def yf:=@List.eq_of_mem_replicate
def yg:=@List.map_map
def yh:=@List.nodup_append
def Bv:=@PySem.wpAny_specialOf
def Bw:=@PySem.SeqAt.EqAt.int_str
def Bx:=@PySem.SeqAt.EqAt.int_none
def By:=@PySem.SeqAt.EqAt.str_int
def Bz:=@PySem.SeqAt.EqAt.str_none
def BD:=@PySem.SeqAt.EqAt.none_int
def BE:=@PySem.SeqAt.EqAt.none_str
def BF:=@List.filterMap_cons
def BG:=@PySem.wpAny_Call_Name_kw
def BH:=@List.of_mem_zip
def BI:=@List.getElem?_replicate
def BJ:=@PySem.noFill_tuple_add
def BK:=@PySem.F.slot_tuple_add
def BL:=@PySem.F.entry_tuple_add
def BM:=@PySem.F.args_tuple_add_2
def BO:=@Array.length_toList
def BP:=@List.map_nil
def BQ:=@Option.isSome_map
def BR:=@PySem.F.slot_dict_get
def BU:=@PySem.F.plainAttrs_dict
def BV:=@PySem.wpAny_dictEntries
def BW:=@PySem.wpAny_dictEpoch
def BX:=@Nat.not_lt_zero
def BZ:=@List.drop_length
def B1:=@Array.getElem?_toList
def J9:=@PySem.F.entry_dict_get
def Ka:=@PySem.F.args_dict_get_3
def Kc:=@PySem.F.entry_dict_keyiterator_next
def Kd:=@PySem.F.args_dict_keyiterator_next_1
def Ke:=@Array.getElem?_eq_some_iff
def Kf:=@List.getElem?_cons_zero
def Kg:=@List.mem_of_find?_eq_some
def Kh:=@List.getElem?_eq_none_iff
namespace L2
open PySem PySem.Spec PyProof.Rows
inductive Key where|inl (i:Int)|inr (x:Str)|non
 deriving DecidableEq
noncomputable def HM:Value→Bool
 |.none=>true
 |_=>false
theorem Ox{v:Value}(h:HM v=true):v=.none:=by cases v<;>first|rfl|cases h
noncomputable def qm:Key→Value→Bool
 |.inl k,v=>Value.isInt k v
 |.inr x,v=>Value.isStrOf x v
 |.non,v=>HM v
noncomputable def Wi(w:World):Key→Int
 |.inl k=>hashInt k
 |.inr x=>hashStr w x
 |.non=>4238894112
theorem iZ:∀{k:Key}{v:Value},qm k v=true→(∃i t,k=.inl i∧v=Value.int i t)∨(∃x t,k=.inr x∧v=Value.str x t)∨(k=.non∧v=.none)
 |.inl i,v,h=>by
  obtain⟨t,e⟩:=Value.isInt_shape (k:=i) (v:=v) h
  exact .inl ⟨i,t,rfl,e⟩
 |.inr x,v,h=>by
  obtain⟨t,e⟩:=Value.isStrOf_shape (x:=x) (v:=v) h
  exact .inr (.inl ⟨x,t,rfl,e⟩)
 |.non,v,h=>.inr (.inr ⟨rfl,Ox h⟩)
theorem Nk(i:Int)(t:Tok):qm (.inl i) (.int i t)=true:=by simp[qm,Value.isInt]
theorem Nn(x:Str)(t:Tok):qm (.inr x) (.str x t)=true:=by simp[qm,Value.isStrOf]
theorem Si(a b:Int):decide ((Key.inl a:Key)=.inl b)=(a==b):=by
 by_cases e:a=b
 ·subst e;simp
 ·rw[fJ fun q=>e (Key.inl.inj q)]
  exact(beq_eq_false_iff_ne.mpr e).symm
theorem Sj(a b:Str):decide ((Key.inr a:Key)=.inr b)=decide (a=b):=by
 by_cases e:a=b
 ·subst e;simp
 ·rw[fJ fun q=>e (Key.inr.inj q),fJ e]
theorem Np{prog:Program}{w:World}{A:Around}{E:Value→Shared→Prop}{s:Shared}{Q:Int→Shared→Prop}(h:Q 4238894112 { s with toks:=s.toks+1 }):wpAny (model prog w) A (PySem.pyHash .none) Q E s:=by
 unfold PySem.pyHash
 have hv:[Value.none].any Value.onHeap=false:=rfl
 refine av ?_
 rw[cRoomFor,if_neg (by rw[hv];exact aZ)];refine aO ?_
 refine av (Bv (xS s) xT.lookup ?_)
 show wpAny _ _ (if (some (Value.builtin "NoneType.__hash__")==some Value.none)=true then _ else _) Q E s
 rw[if_neg (by rw[beq_builtin_none];exact aZ)]
 refine av (Bv (xS s) xT.lookup ?_)
 show wpAny _ _ (callSpecialIfBoundUnlessNone? .none "__hash__" _ >>= _) Q E s
 refine av (wpAny_callSpecialIfBoundUnlessNone?_slot (xS s) xT
  (oT xT (xS s) PySem.F.entry_NoneType_hash
   (show wpAny _ _ (do ret (←mkInt 4238894112)) _ _ s from wpAny_ret_mkInt ?_) (PySem.F.args_NoneType_hash_1 _)))
 exact aO h
noncomputable def cu(prog:Program)(w:World):PySem.KeyKind prog w Key where
 is:=qm
 hash:=Wi w
 inj:=fun v a b ha hb=>by
  rcases iZ ha with⟨i,t,rfl,rfl⟩|⟨x,t,rfl,rfl⟩|⟨rfl,rfl⟩<;>rcases iZ hb with⟨j,u,rfl,e⟩|⟨y,u,rfl,e⟩|⟨rfl,e⟩<;>first|rfl | (injection e with e1 _;rw[e1];done) | (cases e;done)
 byValue:=fun k v h=>by
  rcases iZ h with⟨i,t,rfl,rfl⟩|⟨x,t,rfl,rfl⟩|⟨rfl,rfl⟩<;>rfl
 pyHash:=fun hv h=>by
  rcases iZ hv with⟨i,t,rfl,rfl⟩|⟨x,t,rfl,rfl⟩|⟨rfl,rfl⟩
  ·exact wpAny_pyHash_int h
  ·exact wpAny_pyHash_str h
  ·exact Np h
 eqBool:=fun hu hv h=>by
  rcases iZ hu with⟨i,t,rfl,rfl⟩|⟨x,t,rfl,rfl⟩|⟨rfl,rfl⟩
  ·rcases iZ hv with⟨j,u,rfl,rfl⟩|⟨y,u,rfl,rfl⟩|⟨rfl,rfl⟩
   ·rw[Si]at h;exact wpAny_eqBool_int h
   ·exact Bw i t y u _ _ _ _ h
   ·exact Bx i t _ _ _ _ h
  ·rcases iZ hv with⟨j,u,rfl,rfl⟩|⟨y,u,rfl,rfl⟩|⟨rfl,rfl⟩
   ·exact By x t j u _ _ _ _ h
   ·rw[Sj]at h;exact wpAny_eqBool_str h
   ·exact Bz x t _ _ _ _ h
  ·rcases iZ hv with⟨j,u,rfl,rfl⟩|⟨y,u,rfl,rfl⟩|⟨rfl,rfl⟩
   ·exact BD j u _ _ _ _ h
   ·exact BE y u _ _ _ _ h
   ·exact qR .none _ _ _ _ h
 «strs»:=fun k x t v h=>by
  rcases iZ h with⟨i,u,rfl,e⟩|⟨y,u,rfl,e⟩|⟨rfl,e⟩
  ·exact nomatch e
  ·injection e with e1 _
   subst e1
   cases v<;>rfl
  ·exact nomatch e
theorem MB(prog:Program)(w:World)(i:Int)(t:Tok):(cu prog w).is (.inl i) (.int i t)=true:=Nk i t
theorem MC(prog:Program)(w:World)(x:Str)(t:Tok):(cu prog w).is (.inr x) (.str x t)=true:=Nn x t
theorem MD(prog:Program)(w:World):(cu prog w).is .non .none=true:=rfl
inductive V where
 |non|bl (b:Bool)|int (i:Int)|str (x:Str)|fZ (b:Array UInt8)|uw (b:UInt64)|ref (a:Addr)|ty (n:String)
 deriving DecidableEq
noncomputable def RelV:V→Value→Prop
 |.non,u=>u=Value.none
 |.bl b,u=>u=Value.bool b
 |.int i,u=>∃t,u=Value.int i t
 |.str x,u=>∃t,u=Value.str x t
 |.fZ b,u=>∃t,u=Value.bytes b t
 |.uw b,u=>∃t,u=Value.float b t
 |.ref a,u=>u=Value.ref a
 |.ty n,u=>u=Value.type n
abbrev Vals:List V→List Value→Prop:=Paired RelV
theorem Vals.length{xs:List V}{us:List Value}(r:Vals xs us):xs.length=us.length:=cJ r
theorem Vals.get:∀{xs:List V}{us:List Value}{i:Nat}{x:V},Vals xs us→xs[i]?=some x→∃u,us[i]?=some u∧RelV x u
 |_,_,_,_,.nil,e=>by simp at e
 |_,_,0,_,.cons r _,e=>by simp at e;subst e;exact⟨_,rfl,r⟩
 |_,_,i+1,x,.cons _ t,e=>by
  obtain⟨u,h1,h2⟩:=Vals.get (i:=i) (x:=x) t (by simpa using e)
  exact⟨u,by simpa using h1,h2⟩
theorem Vals.set{x:V}{u:Value}(r:RelV x u):∀{xs:List V}{us:List Value} (i:Nat),Vals xs us→Vals (xs.set i x) (us.set i u)
 |_,_,_,.nil=>.nil
 |_,_,0,.cons _ t=>.cons r t
 |_,_,i+1,.cons q t=>.cons q (Vals.set r i t)
theorem Vals.append:∀{xs ys:List V}{us ws:List Value},Vals xs us→Vals ys ws→Vals (xs++ys) (us++ws)
 |_,_,_,_,.nil,s=>s
 |_,_,_,_,.cons r t,s=>.cons r (Vals.append t s)
theorem Vals.take:∀{xs:List V}{us:List Value} (n:Nat),Vals xs us→Vals (xs.take n) (us.take n)
 |_,_,0,_=>.nil
 |_,_,_+1,.nil=>.nil
 |_,_,n+1,.cons r t=>.cons r (Vals.take n t)
theorem Vals.drop:∀{xs:List V}{us:List Value} (n:Nat),Vals xs us→Vals (xs.drop n) (us.drop n)
 |_,_,0,r=>r
 |_,_,_+1,.nil=>.nil
 |_,_,n+1,.cons _ t=>Vals.drop n t
noncomputable def g6:Option V→Option Value→Prop
 |some v,some u=>RelV v u
 |none,none=>True
 |_,_=>False
def KV{κ:Type}:List (κ×V)→List (κ×Value)→Prop:=Paired fun(p:κ×V) (q:κ×Value)=>p.1=q.1∧RelV p.2 q.2
noncomputable def kV:Key→V
 |.inl i=>.int i
 |.inr x=>.str x
 |.non=>.non
inductive HO where
 |lst (xs:List V)
 |tup (xs:List V)
 |dK (kvs:List (Key×V))|dT (kvs:List (List Key×V))
 |set (S:Int→Bool) (n:Nat)
 |ins (C dx:Addr) (fs:List (Str×V))
 |own (x:Addr)
 |xd (fs:List (Str×V))
 |met (f x:Addr)
 |fM (lo hi:Int)
 |aK (o:Obj) (u:HO)
 |kM (ps:Array Value)
 |ext (φ:Heap→Prop)
noncomputable abbrev Hp:=Addr→Option HO
noncomputable def upd(H:Hp)(a:Addr)(o:HO):Hp:=fun b=>if b=a then some o else H b
theorem a9{H:Hp}{a:Addr}{o:HO}:upd H a o a=some o:=by unfold upd;rw[if_pos rfl]
theorem ay{H:Hp}{a b:Addr}{o:HO}(h:b≠a):upd H a o b=H b:=by unfold upd;rw[if_neg h]
theorem lF{H:Hp}{a b:Addr}{o u:HO}(h:H a=some o)(h':H b=some u)(d:o≠u):a≠b:=by
 intro e;subst e;rw[h]at h';exact d (c9 h')
theorem eD{H:Hp}{a b:Addr}{o:HO}(h:H a=some o)(h':H b=none):a≠b:=by
 intro e;subst e;rw[h]at h';cases h'
def oE(h:Heap)(a:Addr)(items:Array Value):Prop:=∃o,h.get? a=some o∧o.cls=.type "tuple" ∧ o.dict=none∧∃n,o.data=.seq items n
theorem oE.tup{h:Heap}{a:Addr}{items:Array Value}(q:oE h a items):IsTup h a items:=let ⟨o,h1,h2,_,h3⟩:=q;⟨o,h1,h2,h3⟩
theorem oE.new(h:Heap)(items:Array Value):oE (h.push { cls:=.type "tuple",data:=.seq items }) h.objs.size items:=⟨_,eU _ rfl,rfl,rfl,_,rfl⟩
section
variable (P:Program)(w:World)
noncomputable def bT(H:Hp)(h:Heap)(a:Addr):HO→Prop
 |.lst xs=>xs.length≤sizeLine∧∃(its:List Value) (n:Nat),Vals xs its∧h.get? a=some { cls:=.type "list",data:=.seq its.toArray n }
 |.tup xs=>xs.length≤sizeLine∧∃its:List Value,Vals xs its∧oE h a its.toArray
 |.dK kvs=>kvs.length≤sizeLine∧(a==sysModules)=false∧∃vs,KV kvs vs∧h.DictOf (cu P w) a vs
 |.dT kvs=>kvs.length≤sizeLine∧(a==sysModules)=false∧∃xs:List (List Key×Addr×Value),
  Paired (fun(p:List Key×V) (q:List Key×Addr×Value)=>p.1=q.1∧H q.2.1=some (.tup (p.1.map kV))∧RelV p.2 q.2.2) kvs xs ∧
  ∃o es ep,h.get? a=some o∧o.ExactDict∧o.data=.dict es ep∧es.toList=xs.map (entryOfKey (tupleKind (cu P w)))∧(xs.map (·.1)).Nodup
 |.set S n=>h.SetOf (intKind P w) a S n
 |.ins C dx fs=>H dx=some (.own a)∧fs.length≤1000∧dx≠a∧h.get? a=some (PySem.W.instObj C dx) ∧
  ∃mA,h.Ns1 dx mA∧(∀f,g6 (fs.lookup f) (mA f))∧PySem.Within mA (fs.map (·.1))
 |.own _=>∃o,h.get? a=some o
 |.xd fs=>∃mA,h.Ns1 a mA∧∀f,g6 (fs.lookup f) (mA f)
 |.fM lo hi=>∃t u v,h.get? a=some { cls:=.type "range",data:=.fields #[.int lo t,.int hi u,.int 1 v] }
 |.aK o u=>h.get? a=some o∧bT H h a u
 |.kM ps=>h.get? a=some { cls:=.none,data:=.fields ps }
 |.met f x=>h.get? a=some (PySem.W.methodObj (.ref f) (.ref x))
 |.ext φ=>φ h∧(∃o,h.get? a=some o)∧∀h1 h2:Heap,φ h1→(∀o,h1.get? a=some o→h2.get? a=some o)→φ h2
def cj(H:Hp)(h:Heap):Prop:=∀a o,H a=some o→bT P w H h a o
end
section
variable {P:Program}{w:World}{H H':Hp}{h h':Heap}{a:Addr}{o:HO}
theorem bT.lt(x:bT P w H h a o):a<h.objs.size:=by
 cases o with
 |lst xs=>obtain⟨_,_,_,_,e⟩:=x;exact bz e
 |tup xs=>obtain⟨_,_,_,p⟩:=x;exact p.tup.lt
 |dK kvs=>obtain⟨_,_,_,_,o,_,_,e,_⟩:=x;exact bz e
 |dT kvs=>obtain⟨_,_,_,_,o,_,_,e,_⟩:=x;exact bz e
 |set S n=>obtain⟨o,_,_,_,e,_⟩:=x;exact bz e
 |ins C dx fs=>obtain⟨_,_,_,e,_⟩:=x;exact bz e
 |own y=>obtain⟨_,e⟩:=x;exact bz e
 |xd fs=>obtain⟨_,⟨_,_,_,e,_⟩,_⟩:=x;exact bz e
 |fM lo hi=>obtain⟨_,_,_,e⟩:=x;exact bz e
 |aK ob u=>obtain⟨e,_⟩:=x;exact bz e
 |kM ps=>exact bz (show h.get? a=some _ from x)
 |met f y=>exact bz (show h.get? a=some _ from x)
 |ext φ=>obtain⟨_,⟨_,e⟩,_⟩:=x;exact bz e
theorem Paired.kh{α β:Type}{F G:α→β→Prop}:∀{l₁:List α}{l₂:List β},Paired F l₁ l₂→(∀a b,F a b→G a b)→Paired G l₁ l₂
 |_,_,.nil,_=>.nil
 |_,_,.cons r t,f=>.cons (f _ _ r) (Paired.kh t f)
theorem bT.lM(x:bT P w H h a o)(k:∀b u,(b=a∨H b=some (.own a))→h.get? b=some u→h'.get? b=some u)
  (ho:∀b,H b=some (.own a)→H' b=some (.own a)) (ht:∀b xs,H b=some (.tup xs)→H' b=some (.tup xs)):bT P w H' h' a o:=by
 induction o with
 |lst xs=>obtain⟨z,its,n,r,e⟩:=x;exact⟨z,its,n,r,k _ _ (.inl rfl) e⟩
 |tup xs=>obtain⟨z,its,r,ob,e,c⟩:=x;exact⟨z,its,r,ob,k _ _ (.inl rfl) e,c⟩
 |dK kvs=>obtain⟨z,y,vs,r,ob,es,ep,e,c⟩:=x;exact⟨z,y,vs,r,ob,es,ep,k _ _ (.inl rfl) e,c⟩
 |dT kvs =>
  obtain⟨z,y,xs,r,ob,es,ep,e,c⟩:=x
  exact⟨z,y,xs,Paired.kh r fun p q z=>⟨z.1,ht _ _ z.2.1,z.2.2⟩,ob,es,ep,k _ _ (.inl rfl) e,c⟩
 |set S n=>obtain⟨ob,es,ep,t,e,c⟩:=x;exact⟨ob,es,ep,t,k _ _ (.inl rfl) e,c⟩
 |ins C dx fs =>
  obtain⟨d,z,ne,e,mA,⟨od,es,ep,e2,c⟩,r⟩:=x
  exact⟨ho _ d,z,ne,k _ _ (.inl rfl) e,mA,⟨od,es,ep,k _ _ (.inr d) e2,c⟩,r⟩
 |own y=>obtain⟨ob,e⟩:=x;exact⟨ob,k _ _ (.inl rfl) e⟩
 |xd fs=>obtain⟨mA,⟨od,es,ep,e,c⟩,r⟩:=x;exact⟨mA,⟨od,es,ep,k _ _ (.inl rfl) e,c⟩,r⟩
 |fM lo hi=>obtain⟨t,u,v,e⟩:=x;exact⟨t,u,v,k _ _ (.inl rfl) e⟩
 |aK ob u ih=>obtain⟨e,q⟩:=x;exact⟨k _ _ (.inl rfl) e,ih q⟩
 |kM ps =>
  have e:h.get? a=some { cls:=.none,data:=.fields ps }:=x
  show h'.get? a=some { cls:=.none,data:=.fields ps }
  exact k a _ (.inl rfl) e
 |met f y =>
  have e:h.get? a=some (PySem.W.methodObj (.ref f) (.ref y)):=x
  show h'.get? a=some (PySem.W.methodObj (.ref f) (.ref y))
  exact k a _ (.inl rfl) e
 |ext φ=>obtain⟨p,⟨o,e⟩,st⟩:=x;exact⟨st _ _ p fun o q=>k _ _ (.inl rfl) q,⟨o,k _ _ (.inl rfl) e⟩,st⟩
theorem cj.lt(x:cj P w H h)(e:H a=some o):a<h.objs.size:=(x a o e).lt
theorem cj.fresh(x:cj P w H h)(e:h.objs.size≤a):H a=none:=by
 cases q:H a with
 |none=>rfl
 |some u=>exact absurd (dI (x.lt q) e) (jA _)
theorem cj.kept(x:cj P w H h)(k:∀b u,h.get? b=some u→h'.get? b=some u):cj P w H h':=fun a o e =>
 (x a o e).lM (fun b u _ q=>k b u q) (fun _ q=>q) fun _ _ q=>q
theorem cj.laid(x:cj P w H h)(k:∀b u,h.get? b=some u→h'.get? b=some u)(hp:h.objs.size≤a)(new:bT P w (upd H a o) h' a o):cj P w (upd H a o) h':=fun b u e=>by
 have hn:=x.fresh hp
 by_cases hb:b=a
 ·subst hb;rw[a9]at e;cases e;exact new
 ·rw[ay hb]at e
  exact(x b u e).lM (fun c v _ q=>k c v q) (fun c q=>by rw[ay (eD q hn)];exact q) fun c xs q=>by rw[ay (eD q hn)];exact q
end
def Rd(H:Hp)(a:Addr)(u:HO):Prop:=H a=some u∨∃o,H a=some (.aK o u)
theorem Rd.ok{P:Program}{w:World}{H:Hp}{h:Heap}{a:Addr}{u:HO}(r:Rd H a u)(x:cj P w H h):bT P w H h a u:=by
 rcases r with r|⟨o,r⟩
 ·exact x a u r
 ·obtain⟨_,q⟩:=x a _ r
  exact q
noncomputable def ux:Option HO→Prop
 |some (.lst _)=>True
 |some (.dK _)=>True
 |some (.dT _)=>True
 |some (.set _ _)=>True
 |some (.ins _ _ _)=>True
 |some (.ext _)=>True
 |_=>False
section
variable {P:Program}{w:World}{H:Hp}{h h':Heap}{x e:Addr}{o':HO}
theorem cj.write(ok:cj P w H h)(mu:ux (H x))(he:e=x∨H e=some (.own x))(k:∀b u,b≠e→h.get? b=some u→h'.get? b=some u)(qZ:∃u,h'.get? e=some u)
  (new:bT P w (upd H x o') h' x o'):cj P w (upd H x o') h':=fun b u q=>by
 have Je:∀c y,H c=some (.own y)→c≠x:=fun c y r z=>by subst z;rw[r]at mu;exact mu
 have Wj:∀c xs,H c=some (.tup xs)→c≠x:=fun c xs r z=>by subst z;rw[r]at mu;exact mu
 by_cases hb:b=x
 ·subst hb;rw[a9]at q;cases q;exact new
 ·rw[ay hb]at q
  by_cases oX:b=e
  ·have q':H b=some (.own x):=by
    rcases he with z|z
    ·exact absurd (oX.trans z) hb
    ·rw[oX];exact z
   rw[q]at q';cases q'
   obtain⟨v,hv⟩:=qZ
   exact⟨v,by rw[oX];exact hv⟩
  ·refine(ok b u q).lM (fun c v hc r=>k c v ?_ r) (fun c r=>by rw[ay (Je c b r)];exact r) fun c xs r=>by rw[ay (Wj c xs r)];exact r
   rcases hc with rfl|hc
   ·exact oX
   ·rintro rfl
    rcases he with z|z
    ·exact Je c b hc z
    ·rw[hc]at z;cases z;exact hb rfl
end
structure Un (fs ex:List Addr)(H H':Hp)(h h':Heap):Prop where
 keep:∀b o,h.get? b=some o→H b=none→b∉fs→b∉ex→h'.get? b=some o
 slot:∀b o,h.get? b=some o→H b=none→b∈fs→b∉ex→∃sl,h'.get? b=some { o with slots:=sl }
 free:∀b o,h.get? b=some o→H b=none→b∉ex→H' b=none
 there:∀b o,h.get? b=some o→b∉ex→∃o',h'.get? b=some o'
 g7:∀b xs,H b=some (.tup xs)→H' b=some (.tup xs)
 fV:∀b o u,H b=some (.aK o u)→H' b=some (.aK o u)
 g8:∀b ps,H b=some (.kM ps)→∃more,H' b=some (.kM (ps++more))
section
variable {fs Xo ex Zg:List Addr}{H H1 H2:Hp}{h h1 h2 h':Heap}{a x e:Addr}{o:HO}
theorem Un.any(u:Un fs ex H H1 h h1){b:Addr}{ob:Obj}(q:h.get? b=some ob)(n:H b=none)(hx:b∉ex):∃sl,h1.get? b=some { ob with slots:=sl }:=by
 by_cases hb:b∈fs
 ·exact u.slot b ob q n hb hx
 ·exact⟨ob.slots,u.keep b ob q n hb hx⟩
theorem Un.trans(a:Un fs ex H H1 h h1)(b:Un fs ex H1 H2 h1 h2):Un fs ex H H2 h h2 where
 keep:=fun c ob q n hc hx=>b.keep c ob (a.keep c ob q n hc hx) (a.free c ob q n hx) hc hx
 slot:=fun c ob q n hc hx=>by
  obtain⟨sl,e1⟩:=a.slot c ob q n hc hx
  obtain⟨jH,e2⟩:=b.slot c _ e1 (a.free c ob q n hx) hc hx
  exact⟨jH,e2⟩
 free:=fun c ob q n hx=>by
  obtain⟨o',e1⟩:=a.there c ob q hx
  exact b.free c o' e1 (a.free c ob q n hx) hx
 there:=fun c ob q hx=>by
  obtain⟨o',e1⟩:=a.there c ob q hx
  exact b.there c o' e1 hx
 g7:=fun c xs q=>b.g7 c xs (a.g7 c xs q)
 fV:=fun c ob xs q=>b.fV c ob xs (a.fV c ob xs q)
 g8:=fun c ps q=>by
  obtain⟨m1,e1⟩:=a.g8 c ps q
  obtain⟨m2,e2⟩:=b.g8 c _ e1
  exact⟨m1++m2,by rw[e2,Array.append_assoc]⟩
theorem Un.kept(k:∀b u,h.get? b=some u→h'.get? b=some u):Un fs ex H H h h' :=
 ⟨fun b ob q _ _ _=>k b ob q,fun b ob q _ _ _=>⟨ob.slots,k b ob q⟩,fun _ _ _ n _=>n,fun b ob q _=>⟨ob,k b ob q⟩,fun _ _ q=>q,fun _ _ _ q=>q,fun _ ps q=>⟨#[],by rw[q];simp⟩⟩
theorem Un.refl:Un fs ex H H h h:=Un.kept fun _ _ q=>q
theorem Un.laid(k:∀b u,h.get? b=some u→h'.get? b=some u)(hp:h.objs.size≤a)(hn:H a=none):Un fs ex H (upd H a o) h h' where
 keep:=fun b u q _ _ _=>k b u q
 slot:=fun b u q _ _ _=>⟨u.slots,k b u q⟩
 free:=fun b u q n _=>by rw[ay (cK (dI (bz q) hp))];exact n
 there:=fun b u q _=>⟨u,k b u q⟩
 g7:=fun b xs q=>by rw[ay (eD q hn)];exact q
 fV:=fun b u xs q=>by rw[ay (eD q hn)];exact q
 g8:=fun b ps q=>⟨#[],by rw[ay (eD q hn),q];simp⟩
theorem Un.write(mu:ux (H x))(he:e=x∨H e=some (.own x))(k:∀b u,b≠e→h.get? b=some u→h'.get? b=some u)(qZ:∃u,h'.get? e=some u):Un fs ex H (upd H x o) h h':=by
 have hx:∀b,H b=none→b≠x:=fun b n z=>by subst z;rw[n]at mu;exact mu
 have hb:∀b,H b=none→b≠e:=fun b n z=>by
  subst z
  rcases he with r|r
  ·exact hx b n r
  ·rw[n]at r;cases r
 have hm:∀b u,H b=some u→¬ux (some u)→b≠x:=fun b u q nm z=>by subst z;rw[q]at mu;exact nm mu
 refine⟨fun b u q n _ _=>k b u (hb b n) q,fun b u q n _ _=>⟨u.slots,k b u (hb b n) q⟩,fun b u q n _=>by rw[ay (hx b n)];exact n,fun b u q _=>?_,
  fun b xs q=>by rw[ay (hm b _ q fun z=>z)];exact q,fun b u xs q=>by rw[ay (hm b _ q fun z=>z)];exact q,fun b ps q=>⟨#[],by rw[ay (hm b _ q fun z=>z),q];simp⟩⟩
 by_cases oX:b=e
 ·subst oX;exact qZ
 ·exact⟨u,k b u oX q⟩
end
noncomputable def yi(h:Heap)(H:Hp):List Addr:=(List.range h.objs.size).filter fun a=>(H a).isSome
noncomputable def kj(h:Heap)(H:Hp):Heap:=PySem.W.hideAll h (yi h H)
theorem Nq(h:Heap)(H:Hp):(kj h H).objs.size=h.objs.size:=PySem.W.hideAll_size _ _
theorem Oy{h:Heap}{H:Hp}{b:Addr}{o:Obj}(e:h.get? b=some o)(n:H b=none):(kj h H).get? b=some o :=
 PySem.W.hideAll_get _ e fun hm=>by
  have q:(H b).isSome=true:=(List.mem_filter.mp hm).2
  rw[n]at q;simp at q
theorem Qc{h:Heap}{H:Hp}{b:Addr}{o:Obj}(e:(kj h H).get? b=some o):h.get? b=some o∧H b=none:=by
 have e':h.get? b=some o:=PySem.W.of_hideAll (yi h H) e
 refine⟨e',?_⟩
 cases q:H b with
 |none=>rfl
 |some x =>
  have hm:b∈yi h H:=List.mem_filter.mpr ⟨ug.mpr (bz e'),by simp[q]⟩
  have z:(kj h H).get? b=none:=PySem.W.hideAll_none (yi h H) hm
  rw[z]at e;cases e
noncomputable def Qe(g h:Heap)(L:Addr):List (Addr×Obj):=(List.range h.objs.size).filterMap fun a=>if a=L∨(g.get? a).isSome=true then none else (h.get? a).map fun o=>(a,o)
noncomputable def rest(g h:Heap)(L d:Addr):List (Addr×Obj):=(Qe g h L).filter fun p=>decide (p.1≠d)
structure Mod (K:PySem.W.Frag)(mg:Str→Option Value)(base:Heap):Prop where
 B2:K.In base
 glob:base.Ns mainGlobals mg
 blt:∃mb,base.Ns builtinsNs mb∧∀x:Str,x ≠ "__name__" → mb x=bootBuiltins x
 nolimit:base.NoLimit
structure Cx where
 prog:Program
 w:World
 K:PySem.W.Frag
 mg:Str→Option Value
 base:Heap
 A:Around
 N:List Str
 s₀:Shared
 H₀:Hp
 env:Env
 outer:List Env
 stack:List Env
 ex:List Addr
 fn:Str→Bool
 calm:Bool
 pn:List (Addr×Obj)
 xe:Value→Shared→Prop
noncomputable def hU(l:List Env):List Addr:=l.filterMap (·.frame)
noncomputable abbrev Cx.fs(X:Cx):List Addr:=hU X.outer
def uz(sc:Scope)(x:Str):Prop:=sc.names.lookup x=some .local∨sc.names.lookup x=some .cell∨sc.names.lookup x=some .free
def Loc(sc:Scope)(x:Str):Prop:=sc.names.lookup x=some .local∨sc.names.lookup x=some .cell
def Look(env:Env)(h:Heap)(m:Str→Option Value)(x:Str)(u:Value):Prop :=
 (env.kindOf x=some .local∧m x=some u)∨((env.kindOf x=some .cell∨env.kindOf x=some .free)∧∃c,env.cells.lookup x=some c∧h.IsCell c (some u))
structure Cx.Ok (X:Cx):Prop where
 mod:Mod X.K X.mg X.base
 kind:X.env.scope.kind=.function
 glob:X.env.globals=mainGlobals
 blt:X.env.builtins=builtinsNs
 above:X.s₀.heap.objs.size≤X.env.locals
 inj:∀x y c,X.env.cells.lookup x=some c→X.env.cells.lookup y=some c→x=y
 has:∀x,(X.env.kindOf x=some .cell∨X.env.kindOf x=some .free)→∃c,X.env.cells.lookup x=some c
 uA:∀x c,X.fn x=true→X.env.cells.lookup x=some c→X.s₀.heap.objs.size≤c
 hd:X.calm=true→X.A.handled=none
 frames:X.A.frames=some X.stack
 yj:X.stack=X.outer∨(X.stack=X.env::X.outer∧X.env.frame=some X.env.locals)
 Ki:∀b∈X.ex,b≠X.env.locals∧∀x c,X.env.cells.lookup x=some c→c≠b
 bs:∀b o,X.base.get? b=some o→X.s₀.heap.get? b=some o∧X.H₀ b=none
 kO:X.base.objs.size≤X.s₀.heap.objs.size
 tN:∀b o,X.base.get? b=some o→b∉X.ex
 xk:∀b∈X.ex,b∉X.fs
 iC:X.s₀.heap.FunFrames X.base X.outer
 q8:∀b∈X.fs,X.H₀ b=none
structure Inv (X:Cx)(pins:List (Addr×Obj))(σ:List (Option V))(H:Hp)(s:Shared):Prop where
 ok:X.Ok
 os:s.os=X.s₀.os
 bare:AllBare s.gens
 base:Un X.fs X.ex X.H₀ H X.s₀.heap s.heap
 loc:∃m,s.heap.Ns X.env.locals m∧∀(i:Nat) (x:Str) (v:V),X.N[i]?=some x→σ[i]?=some (some v)→uz X.env.scope x→∃u,RelV v u∧Look X.env s.heap m x u
 cell:∀x c,X.env.cells.lookup x=some c→∃v,s.heap.IsCell c v
 free:H X.env.locals=none
 gE:∀x c,X.env.cells.lookup x=some c→H c=none
 pin:∀p∈X.pn++pins,s.heap.get? p.1=some p.2∧H p.1=none∧p.1≠X.env.locals∧p.1∉X.fs∧∀v,p.2.data≠.cell v
 az:cj X.prog X.w H s.heap
 len:σ.length=X.N.length
section
variable {X:Cx}{pins:List (Addr×Obj)}{σ:List (Option V)}{H H':Hp}{s:Shared}{h':Heap}
theorem Cx.Ok.Wk(ok:X.Ok){b:Addr}{o:Obj}(e:X.base.get? b=some o):b∉X.fs:=fun hb=>by
 have:=(ok.iC.mem hb).1
 rw[e]at this;cases this
theorem Inv.bs(I:Inv X pins σ H s):∀b o,X.base.get? b=some o→s.heap.get? b=some o∧H b=none:=fun b o e =>
 ⟨I.base.keep b o (I.ok.bs b o e).1 (I.ok.bs b o e).2 (I.ok.Wk e) (I.ok.tN b o e),I.base.free b o (I.ok.bs b o e).1 (I.ok.bs b o e).2 (I.ok.tN b o e)⟩
theorem Inv.bk(I:Inv X pins σ H s):∀b o,X.base.get? b=some o→s.heap.get? b=some o:=fun b o e=>(I.bs b o e).1
theorem Inv.mod(I:Inv X pins σ H s):Mod X.K X.mg X.base:=I.ok.mod
theorem Inv.gy(I:Inv X pins σ H s):X.K.In s.heap:=I.ok.mod.B2.keeps I.bk
theorem Inv.fr(I:Inv X pins σ H s):∃m,Fr X.base X.env.locals s.heap m :=
 let ⟨m,hn,_⟩:=I.loc
 ⟨m,hn,I.bk,bQ I.ok.kO I.ok.above⟩
theorem Inv.lt(I:Inv X pins σ H s):X.env.locals<s.heap.objs.size:=let ⟨_,hn,_⟩:=I.loc;hn.lt
theorem Inv.sz(I:Inv X pins σ H s):X.s₀.heap.objs.size≤s.heap.objs.size:=bQ I.ok.above (Nat.le_of_lt I.lt)
theorem Inv.Wm(I:Inv X pins σ H s){a:Addr}(h:s.heap.objs.size≤a):a∉X.fs:=fun hb=>by
 obtain⟨_,o,ho,_⟩:=I.ok.iC.mem hb
 exact absurd (dI (bz ho) (bQ I.sz h)) (jA _)
theorem Inv.oY(I:Inv X pins σ H s):∀x c,X.env.cells.lookup x=some c→c≠X.env.locals:=fun x c e z=>by
 obtain⟨v,o,ho,hd⟩:=I.cell x c e
 obtain⟨m,⟨o',es,ep,dE,jI,_⟩,_⟩:=I.loc
 rw[z,dE]at ho;cases ho;rw[jI]at hd;cases hd
theorem Inv.iC(I:Inv X pins σ H s):s.heap.FunFrames X.base X.outer:=by
 have all:∀(l:List Env),(∀b∈hU l,b∈X.fs)→X.s₀.heap.FunFrames X.base l→s.heap.FunFrames X.base l:=by
  intro l
  induction l with
  |nil=>intro _ _;trivial
  |cons env r ih =>
   intro hs hl
   obtain⟨hk,⟨L,o,hf,hn,ho,hd⟩,hr⟩:=hl
   have hL:L∈X.fs:=hs L (by unfold hU;rw[BF,hf];exact cL)
   obtain⟨sl,e⟩:=I.base.slot L o ho (I.ok.q8 L hL) hL fun z=>I.ok.xk L z hL
   exact⟨hk,⟨L,_,hf,hn,e,hd⟩,ih (fun b hb=>hs b (by unfold hU;rw[BF,hf];exact cT _ hb)) hr⟩
 exact all X.outer (fun _ hb=>hb) I.ok.iC
theorem Inv.stack(I:Inv X pins σ H s):s.heap.FunFrames X.base X.stack:=by
 rcases I.ok.yj with e|⟨e,hf⟩
 ·rw[e];exact I.iC
 ·rw[e]
  obtain⟨m,hn,_⟩:=I.loc
  refine .cons (by rw[I.ok.kind];decide) hf hn ?_ I.iC
  exact Heap.get?_none_of_le (bQ I.ok.kO I.ok.above)
theorem Inv.z7(I:Inv X pins σ H s):∀b∈hU X.stack,b∈X.env.locals::X.fs:=fun b hb=>by
 rcases I.ok.yj with e|⟨e,hf⟩
 ·rw[e]at hb;exact cT _ hb
 ·rw[e]at hb
  unfold hU at hb
  rw[BF,hf]at hb
  exact hb
theorem Inv.FJ(I:Inv X pins σ H s):∀b∈hU X.stack,H b=none:=fun b hb=>by
 rcases fK.mp (I.z7 b hb)with e|hb
 ·rw[e];exact I.free
 ·obtain⟨_,o,ho,_⟩:=I.ok.iC.mem hb
  exact I.base.free b o ho (I.ok.q8 b hb) fun z=>I.ok.xk b z hb
theorem Inv.step{g':Array GenState}{t':Nat}{d':Drawn}{ch:List Addr}(I:Inv X pins σ H s)
  (hV:∀b∈ch,(b∈X.ex∨X.s₀.heap.objs.size≤b)∧b≠X.env.locals∧(∀x c,X.env.cells.lookup x=some c→c≠b)∧∀p∈X.pn++pins,p.1≠b)
  (keep:∀b o,b≠X.env.locals→b∉X.fs→b∉ch→s.heap.get? b=some o→H b=none→h'.get? b=some o)
  (slot:∀b o,b≠X.env.locals→b∈X.fs→b∉ch→s.heap.get? b=some o→H b=none→∃sl,h'.get? b=some { o with slots:=sl }) (free:∀b o,b∉ch→s.heap.get? b=some o→H b=none→H' b=none)
  (there:∀b o,b∉ch→s.heap.get? b=some o→∃o',h'.get? b=some o')
  (g7:∀b xs,H b=some (.tup xs)→H' b=some (.tup xs)) (fV:∀b o u,H b=some (.aK o u)→H' b=some (.aK o u)) (g8:∀b ps,H b=some (.kM ps)→∃more,H' b=some (.kM (ps++more)))
  (ns:∀m,s.heap.Ns X.env.locals m→h'.Ns X.env.locals m) (az:cj X.prog X.w H' h') (hg:AllBare g') :
  Inv X pins σ H' { s with heap:=h',gens:=g',drawn:=d',toks:=t' }:=by
 have oZ:∀b o,X.s₀.heap.get? b=some o→b≠X.env.locals:=fun b o e=>cK (dI (bz e) I.ok.above)
 have kQ:∀b o,X.s₀.heap.get? b=some o→b∉X.ex→b∉ch:=fun b o e hx hb=>by
  rcases (hV b hb).1 with z|z
  ·exact hx z
  ·exact absurd (dI (bz e) z) (jA _)
 have cellK:∀x c,X.env.cells.lookup x=some c→∀v,s.heap.IsCell c v→h'.IsCell c v:=fun x c e v ⟨o,ho,hd⟩=>by
  have uB:c∉ch:=fun z=>(hV c z).2.2.1 x c e rfl
  by_cases hc:c∈X.fs
  ·obtain⟨sl,q⟩:=slot c o (I.oY x c e) hc uB ho (I.gE x c e)
   exact⟨_,q,hd⟩
  ·exact⟨o,keep c o (I.oY x c e) hc uB ho (I.gE x c e),hd⟩
 refine⟨I.ok,I.os,hg,⟨fun b o e n hb hx=>?_,fun b o e n hb hx=>?_,fun b o e n hx=>?_,fun b o e hx=>?_,fun b xs e=>g7 b xs (I.base.g7 b xs e),fun b o xs e=>fV b o xs (I.base.fV b o xs e),fun b ps e=>?_⟩,?_,fun x c e=>?_,?_,fun x c e=>?_,fun p hp=>?_,az,I.len⟩
 ·exact keep b o (oZ b o e) hb (kQ b o e hx) (I.base.keep b o e n hb hx) (I.base.free b o e n hx)
 ·obtain⟨sl,e1⟩:=I.base.slot b o e n hb hx
  obtain⟨jH,e2⟩:=slot b _ (oZ b o e) hb (kQ b o e hx) e1 (I.base.free b o e n hx)
  exact⟨jH,e2⟩
 ·obtain⟨o',e1⟩:=I.base.there b o e hx
  exact free b o' (kQ b o e hx) e1 (I.base.free b o e n hx)
 ·obtain⟨o',e1⟩:=I.base.there b o e hx
  exact there b o' (kQ b o e hx) e1
 ·obtain⟨m1,e1⟩:=I.base.g8 b ps e
  obtain⟨m2,e2⟩:=g8 b _ e1
  exact⟨m1++m2,by rw[e2,Array.append_assoc]⟩
 ·obtain⟨m,hn,hl⟩:=I.loc
  refine⟨m,ns m hn,fun i x v e1 e2 e3=>?_⟩
  obtain⟨u,r,l⟩:=hl i x v e1 e2 e3
  refine⟨u,r,?_⟩
  rcases l with l|⟨k,c,e,z⟩
  ·exact .inl l
  ·exact .inr ⟨k,c,e,cellK x c e _ z⟩
 ·obtain⟨v,z⟩:=I.cell x c e
  exact⟨v,cellK x c e v z⟩
 ·obtain⟨m,⟨o,_,_,ho,_⟩,_⟩:=I.loc
  exact free _ o (fun z=>(hV _ z).2.1 rfl) ho I.free
 ·obtain⟨v,o,ho,hd⟩:=I.cell x c e
  exact free c o (fun z=>(hV c z).2.2.1 x c e rfl) ho (I.gE x c e)
 ·obtain⟨e,n,ne,nf,d⟩:=I.pin p hp
  have uB:p.1∉ch:=fun z=>(hV p.1 z).2.2.2 p hp rfl
  exact⟨keep p.1 p.2 ne nf uB e n,free p.1 p.2 uB e n,ne,nf,d⟩
theorem Inv.un{t':Nat}(I:Inv X pins σ H s)(u:Un X.fs [] H H' s.heap h')(az:cj X.prog X.w H' h'):Inv X pins σ H' { s with heap:=h',toks:=t' }:=by
 obtain⟨m,⟨o,es,ep,ho,r⟩,_⟩:=id I.loc
 obtain⟨sl,hL⟩:=u.any ho I.free (by simp)
 exact I.step (g':=s.gens) (d':=s.drawn) (ch:=[]) (fun _ z=>nomatch z) (fun b o _ hb _ e n=>u.keep b o e n hb (by simp)) (fun b o _ hb _ e n=>u.slot b o e n hb (by simp)) (fun b o _ e n=>u.free b o e n (by simp)) (fun b o _ e=>u.there b o e (by simp)) u.g7 u.fV u.g8 (fun m' hm=>by
  obtain⟨o',uC,uD,dE,r'⟩:=hm
  rw[ho]at dE;cases dE
  exact⟨_,uC,uD,hL,r'⟩) az I.bare
theorem Inv.call{g':Array GenState}{t':Nat}{d':Drawn}{ch:List Addr}(I:Inv X pins σ H s)(u:Un (hU X.stack) ch H H' s.heap h')(az:cj X.prog X.w H' h')(hg:AllBare g')
  (hV:∀b∈ch,(b∈X.ex∨X.s₀.heap.objs.size≤b)∧b≠X.env.locals∧(∀x c,X.env.cells.lookup x=some c→c≠b)∧∀p∈X.pn++pins,p.1≠b) :
  Inv X pins σ H' { s with heap:=h',gens:=g',drawn:=d',toks:=t' }:=by
 obtain⟨m,⟨o,es,ep,ho,r⟩,_⟩:=id I.loc
 obtain⟨sl,hL⟩:=u.any ho I.free fun z=>(hV _ z).2.1 rfl
 exact I.step (ch:=ch) hV (fun b o hL hb hc e n=>u.keep b o e n (fun z=>(fK.mp (I.z7 b z)).elim hL hb) hc) (fun b o _ _ hc e n=>u.any e n hc) (fun b o hc e n=>u.free b o e n hc) (fun b o hc e=>u.there b o e hc) u.g7 u.fV u.g8 (fun m' hm=>by
  obtain⟨o',uC,uD,dE,r'⟩:=hm
  rw[ho]at dE;cases dE
  exact⟨_,uC,uD,hL,r'⟩) az hg
theorem Inv.turned{t':Nat}{it:Addr}(I:Inv X pins σ H s)(k:∀b o,b≠it→s.heap.get? b=some o→h'.get? b=some o)(hn:H it=none)(hL:it≠X.env.locals)
  (h1:it∈X.ex∨X.s₀.heap.objs.size≤it) (h2:∀x c,X.env.cells.lookup x=some c→c≠it) (h3:∀p∈X.pn++pins,p.1≠it):Inv X pins σ H { s with heap:=h',toks:=t' }:=by
 have lY:∀b u,H b=some u→b≠it:=fun b u e z=>by rw[z,hn]at e;cases e
 refine I.step (g':=s.gens) (d':=s.drawn) (ch:=[it]) (fun b hb=>?_) (fun b o _ _ hc e _=>k b o (fun z=>hc (by simp[z])) e) (fun b o _ _ hc e _=>⟨o.slots,k b o (fun z=>hc (by simp[z])) e⟩) (fun _ _ _ _ n=>n)
  (fun b o hc e=>⟨o,k b o (fun z=>hc (by simp[z])) e⟩) (fun _ _ e=>e) (fun _ _ _ e=>e) (fun b ps e=>⟨#[],by rw[e];simp⟩) (fun m hm=>?_) (fun b u e=>?_) I.bare
 ·have e:b=it:=by simpa using hb
  subst e
  exact⟨h1,hL,h2,h3⟩
 ·obtain⟨o,es,ep,ho,r⟩:=hm
  exact⟨o,es,ep,k _ o (jD hL) ho,r⟩
 ·refine(I.az b u e).lM (fun c v hc q=>k c v ?_ q) (fun _ q=>q) fun _ _ q=>q
  rcases hc with z|z
  ·rw[z];exact lY b u e
  ·exact lY c _ z
theorem Inv.tok(I:Inv X pins σ H s)(t:Nat):Inv X pins σ H { s with toks:=t }:=I.un (h':=s.heap) (t':=t) Un.refl I.az
theorem Inv.kept{t':Nat}(I:Inv X pins σ H s)(k:∀b u,s.heap.get? b=some u→h'.get? b=some u):Inv X pins σ H { s with heap:=h',toks:=t' }:=I.un (Un.kept k) (I.az.kept k)
theorem Inv.laid{a:Addr}{o:HO}{t':Nat}(I:Inv X pins σ H s)(k:∀b u,s.heap.get? b=some u→h'.get? b=some u)(hp:s.heap.objs.size≤a)(new:bT X.prog X.w (upd H a o) h' a o) :
 Inv X pins σ (upd H a o) { s with heap:=h',toks:=t' }:=I.un (Un.laid k hp (I.az.fresh hp)) (I.az.laid k hp new)
theorem Inv.write{x e:Addr}{o:HO}{t':Nat}(I:Inv X pins σ H s)(mu:ux (H x))(he:e=x∨H e=some (.own x))(k:∀b u,b≠e→s.heap.get? b=some u→h'.get? b=some u)(qZ:∃u,h'.get? e=some u)
 (new:bT X.prog X.w (upd H x o) h' x o):Inv X pins σ (upd H x o) { s with heap:=h',toks:=t' }:=I.un (Un.write mu he k qZ) (I.az.write mu he k qZ new)
theorem Inv.weak{σ':List (Option V)}(I:Inv X pins σ H s)(hl:σ'.length=σ.length)(w:∀(i:Nat) v,σ'[i]?=some (some v)→σ[i]?=some (some v)):Inv X pins σ' H s :=
 ⟨I.ok,I.os,I.bare,I.base,let ⟨m,hn,kR⟩:=I.loc;⟨m,hn,fun i x v e1 e2 e3=>kR i x v e1 (w i v e2) e3⟩,I.cell,I.free,I.gE,I.pin,I.az,hl.trans I.len⟩
theorem Inv.FK{HN:List (Addr×Obj)}(I:Inv X pins σ H s)(h:∀p∈HN,s.heap.get? p.1=some p.2∧H p.1=none∧p.1≠X.env.locals∧p.1∉X.fs∧∀v,p.2.data≠.cell v):Inv X HN σ H s :=
 ⟨I.ok,I.os,I.bare,I.base,I.loc,I.cell,I.free,I.gE,fun p hp=>(fX.mp hp).elim (fun z=>I.pin p (uh _ z)) (h p),I.az,I.len⟩
theorem r9{N:List Str}(hN:N.Nodup){i j:Nat}{x:Str}(a:N[i]?=some x)(b:N[j]?=some x):i=j:=by
 obtain⟨h1,e1⟩:=bt.mp a
 obtain⟨h2,e2⟩:=bt.mp b
 exact(List.getElem_inj hN).mp (e1.trans e2.symm)
theorem Ew{M:Model}{A:Around}{E:Value→Shared→Prop}{i:Nat}{x:Str}{v:V}{u:Value}{Q:Unit→Shared→Prop}(I:Inv X pins σ H s)(hN:X.N.Nodup)(hi:X.N[i]?=some x)(hx:Loc X.env.scope x)(r:RelV v u)
  (h:∀s',Inv X pins (σ.set i (some v)) H s'→(∃a,Heap.SameBut a s.heap s'.heap∧(a=X.env.locals∨X.env.cells.lookup x=some a))→Q () s') (hf:X.fn x=true∨X.env.scope.names.lookup x=some .local:=by first|exact .inl rfl|exact .inr rfl|assumption):wpAny M A (storeName X.env x u) Q E s:=by
 obtain⟨m,hn,hl⟩:=id I.loc
 have Wn:(X.env.scope.kind==.class||(X.env.scope.kind==.module&&X.env.locals != X.env.globals))=false:=by rw[I.ok.kind];rfl
 have Jf:i<σ.length:=by rw[I.len];exact(bt.mp hi).1
 have oY:=I.oY
 have tracked:∀{a:Addr}{h':Heap},(∃o,s.heap.get? a=some o∧H a=none)→Heap.SameBut a s.heap h'→cj X.prog X.w H h':=fun {a h'} ha hs b ob e=>by
  obtain⟨_,_,wF⟩:=ha
  refine(I.az b ob e).lM (fun c w' hc q=>(hs.2 c ?_).trans q) (fun _ q=>q) fun _ _ q=>q
  rintro rfl
  rcases hc with rfl|hc
  ·rw[wF]at e;cases e
  ·rw[wF]at hc;cases hc
 rcases hx with hk|hk
 ·refine wpAny_storeName_local hk hn (fun h' B3 hs=>?_) Wn
  obtain⟨oL,_,_,Xp,_⟩:=id hn
  refine h _ ⟨I.ok,I.os,I.bare,⟨fun b o e n hb hx=>?_,fun b o e n hb hx=>?_,I.base.free,fun b o e hx=>?_,I.base.g7,I.base.fV,I.base.g8⟩,⟨_,B3,fun j y v' e1 e2 e3=>?_⟩,fun y c e=>?_,I.free,I.gE,fun p hp=>?_,tracked ⟨oL,Xp,I.free⟩ hs,by simpa using I.len⟩ ⟨_,hs,.inl rfl⟩
  ·exact(hs.2 b (cK (dI (bz e) I.ok.above))).trans (I.base.keep b o e n hb hx)
  ·obtain⟨sl,e1⟩:=I.base.slot b o e n hb hx
   exact⟨sl,(hs.2 b (cK (dI (bz e) I.ok.above))).trans e1⟩
  ·obtain⟨o',e1⟩:=I.base.there b o e hx
   exact⟨o',(hs.2 b (cK (dI (bz e) I.ok.above))).trans e1⟩
  ·by_cases hj:j=i
   ·subst hj
    rw[hi]at e1;cases e1
    rw[List.getElem?_set_self Jf]at e2
    cases e2
    exact⟨u,r,.inl ⟨hk,by simp⟩⟩
   ·rw[cU (jD hj)]at e2
    obtain⟨u',r',q⟩:=hl j y v' e1 e2 e3
    refine⟨u',r',?_⟩
    rcases q with⟨k,e⟩|⟨k,c,e,z⟩
    ·refine .inl ⟨k,?_⟩
     have:y≠x:=fun e=>hj (r9 hN e1 (e▸hi))
     simp[this,e]
    ·exact .inr ⟨k,c,e,z.sameBut hs (oY y c e)⟩
  ·obtain⟨w',z⟩:=I.cell y c e
   exact⟨w',z.sameBut hs (oY y c e)⟩
  ·obtain⟨e,n,ne,nf,d⟩:=I.pin p hp
   exact⟨(hs.2 p.1 ne).trans e,n,ne,nf,d⟩
 ·have B4:X.fn x=true:=by
   rcases hf with z|z
   ·exact z
   ·rw[z]at hk;cases hk
  obtain⟨c,hc⟩:=I.ok.has x (.inl hk)
  obtain⟨w',z⟩:=I.cell x c hc
  refine wpAny_storeName_cell I.ok.kind hk hc z (fun h' uE hs=>?_)
  obtain⟨oc,Kj,Wo⟩:=id z
  refine h { s with heap:=h' } ⟨I.ok,I.os,I.bare,⟨fun b o e n hb hx=>?_,fun b o e n hb hx=>?_,I.base.free,fun b o e hx=>?_,I.base.g7,I.base.fV,I.base.g8⟩,⟨m,hn.sameBut hs (jD (oY x c hc)),fun j y v' e1 e2 e3=>?_⟩,fun y c' e=>?_,I.free,I.gE,fun p hp=>?_,tracked ⟨oc,Kj,I.gE x c hc⟩ hs,by simpa using I.len⟩ ⟨c,hs,.inr hc⟩
  ·exact(hs.2 b (cK (dI (bz e) (I.ok.uA x c B4 hc)))).trans (I.base.keep b o e n hb hx)
  ·obtain⟨sl,e1⟩:=I.base.slot b o e n hb hx
   exact⟨sl,(hs.2 b (cK (dI (bz e) (I.ok.uA x c B4 hc)))).trans e1⟩
  ·obtain⟨o',e1⟩:=I.base.there b o e hx
   exact⟨o',(hs.2 b (cK (dI (bz e) (I.ok.uA x c B4 hc)))).trans e1⟩
  ·by_cases hj:j=i
   ·subst hj
    rw[hi]at e1;cases e1
    rw[List.getElem?_set_self Jf]at e2
    cases e2
    exact⟨u,r,.inr ⟨.inl hk,c,hc,uE⟩⟩
   ·rw[cU (jD hj)]at e2
    obtain⟨u',r',q⟩:=hl j y v' e1 e2 e3
    refine⟨u',r',?_⟩
    rcases q with q|⟨k,c',e,z'⟩
    ·exact .inl q
    ·refine .inr ⟨k,c',e,z'.sameBut hs ?_⟩
     rintro rfl
     exact hj (r9 hN e1 (I.ok.inj _ _ _ e hc▸hi))
  ·by_cases Kk:c'=c
   ·subst Kk;exact⟨_,uE⟩
   ·obtain⟨w2,z2⟩:=I.cell y c' e
    exact⟨w2,z2.sameBut hs Kk⟩
  ·obtain⟨e,n,ne,nf,d⟩:=I.pin p hp
   refine⟨(hs.2 p.1 ?_).trans e,n,ne,nf,d⟩
   intro q
   rw[q,Kj]at e
   have q':oc=p.2:=c9 e
   exact d w' (by rw[←q'];exact Wo)
theorem E4{M:Model}{A:Around}{E:Value→Shared→Prop}{i:Nat}{x:Str}{v:V}{u:Value}{Q:Unit→Shared→Prop}(I:Inv X pins σ H s)(hN:X.N.Nodup)(hi:X.N[i]?=some x)(hx:Loc X.env.scope x)(r:RelV v u)
  (h:∀s',Inv X pins (σ.set i (some v)) H s'→Q () s') (hf:X.fn x=true∨X.env.scope.names.lookup x=some .local:=by first|exact .inl rfl|exact .inr rfl|assumption):wpAny M A (storeName X.env x u) Q E s :=
 Ew I hN hi hx r (fun s' I' _=>h s' I') hf
theorem Inv.U4{s':Shared}{ch:List Addr}(I:Inv X pins σ H s)(ho:s'.os=s.os)(u:Un (hU X.stack) ch H H' s.heap s'.heap)(az:cj X.prog X.w H' s'.heap)(hg:AllBare s'.gens)
  (hV:∀b∈ch,(b∈X.ex∨X.s₀.heap.objs.size≤b)∧b≠X.env.locals∧(∀x c,X.env.cells.lookup x=some c→c≠b)∧∀p∈X.pn++pins,p.1≠b):Inv X pins σ H' s':=by
 obtain⟨h',g',d',t',o'⟩:=s'
 have e:o'=s.os:=ho
 subst e
 exact I.call (g':=g') (t':=t') (d':=d') u az hg hV
end
noncomputable abbrev XK:=Value→Option Addr→Hp→Prop
noncomputable abbrev St:=List (Option V)
noncomputable abbrev VK:=V→Hp→Prop
noncomputable abbrev TE:=St→Hp→VK→Prop
noncomputable abbrev TT:=St→Hp→(Bool→Hp→Prop)→Prop
noncomputable abbrev TA:=St→Hp→(List V→Hp→Prop)→Prop
structure Ends where
 nx:St→Hp→Prop
 rt:VK
 bk:St→Hp→Prop:=fun _ _=>False
 ct:St→Hp→Prop:=fun _ _=>False
noncomputable abbrev TS:=Ends→St→Hp→Prop
def EP(X:Cx)(pins:List (Addr×Obj))(σ:St)(Q:VK)(u:Value)(s':Shared):Prop:=∃v H',Inv X pins σ H' s'∧RelV v u∧Q v H'
def TP(X:Cx)(pins:List (Addr×Obj))(σ:St)(Q:Bool→Hp→Prop)(b:Bool)(s':Shared):Prop:=∃H',Inv X pins σ H' s'∧Q b H'
def AP(X:Cx)(pins:List (Addr×Obj))(σ:St)(Q:List V→Hp→Prop)(us:List Value)(s':Shared):Prop:=∃vs H',Inv X pins σ H' s'∧Vals vs us∧Q vs H'
def SP(X:Cx)(pins:List (Addr×Obj))(D:Ends)(f:Flow)(s':Shared):Prop :=
 match f with
 |.next=>∃σ' H',Inv X pins σ' H' s'∧D.nx σ' H'
 |.brk=>∃σ' H',Inv X pins σ' H' s'∧D.bk σ' H'
 |.cont=>∃σ' H',Inv X pins σ' H' s'∧D.ct σ' H'
 |.ret u=>∃v σ' H',Inv X pins σ' H' s'∧RelV v u∧D.rt v H'
def PE(X:Cx)(e:Expr)(t:TE):Prop :=
 ∀(pins:List (Addr×Obj)) (s:Shared) (σ:St) (H:Hp) (Q:VK),Inv X pins σ H s→t σ H Q→wpAny (model X.prog X.w) X.A (eval e X.env) (EP X pins σ Q) X.xe s
def PT(X:Cx)(e:Expr)(t:TT):Prop :=
 ∀(pins:List (Addr×Obj)) (s:Shared) (σ:St) (H:Hp) (Q:Bool→Hp→Prop),Inv X pins σ H s→t σ H Q→wpAny (model X.prog X.w) X.A (isTrue e X.env (eval e X.env)) (TP X pins σ Q) X.xe s
def PW(X:Cx)(e:Expr)(t:TT):Prop :=
 ∀(whole:Sem Value) (pins:List (Addr×Obj)) (s:Shared) (σ:St) (H:Hp) (Q:Bool→Hp→Prop),Inv X pins σ H s→t σ H Q→wpAny (model X.prog X.w) X.A (isTrue e X.env whole) (TP X pins σ Q) X.xe s
theorem PW.pt{X:Cx}{e:Expr}{t:TT}(h:PW X e t):PT X e t:=h _
def PA(X:Cx)(es:List Expr)(t:TA):Prop :=
 ∀(pos:Pos) (pins:List (Addr×Obj)) (s:Shared) (σ:St) (H:Hp) (Q:List V→Hp→Prop),Inv X pins σ H s→t σ H Q→wpAny (model X.prog X.w) X.A (spliced (backTo pos (starEach es X.env))) (AP X pins σ Q) X.xe s
def PS(X:Cx)(st:Stmt)(t:TS):Prop :=
 ∀(pins:List (Addr×Obj)) (s:Shared) (σ:St) (H:Hp) (D:Ends),Inv X pins σ H s→t D σ H→wpAny (model X.prog X.w) X.A (exec st X.env) (SP X pins D) X.xe s
def f6(X:Cx)(st:List Stmt)(t:TS):Prop :=
 ∀(pins:List (Addr×Obj)) (s:Shared) (σ:St) (H:Hp) (D:Ends),Inv X pins σ H s→t D σ H→wpAny (model X.prog X.w) X.A (execs st X.env) (SP X pins D) X.xe s
theorem aC{α:Type}{t:Sem α}{Q Q':α→Shared→Prop}{M:Model}{A:Around}{E:Value→Shared→Prop}{s:Shared}(h:wpAny M A t Q E s)(hQ:∀a s,Q a s→Q' a s):wpAny M A t Q' E s:=fA h hQ fun _ _ x=>x
section
variable {X:Cx}
noncomputable def gq(i:Nat):TE:=fun σ H Q=>∃v,σ[i]?=some (some v)∧Q v H
noncomputable def tC(v:V):TE:=fun _ H Q=>Q v H
theorem z8 {i:Nat}{x:Str}{pos:Pos} (hN:X.N[i]?=some x) (hv:uz X.env.scope x) (hd:(x==("__debug__" : Str))=false:=by decide) (dM:(x==("__classdict__" : Str))=false:=by decide):PE X (.Name x pos) (gq i):=by
 intro pins s σ H Q I h
 obtain⟨v,e,h⟩:=h
 obtain⟨m,hn,hl⟩:=I.loc
 obtain⟨u,r,l⟩:=hl i x v hN e hv
 have fin:EP X pins σ Q u s:=⟨v,H,I,r,h⟩
 rcases l with⟨hk,hm⟩|⟨hk,c,hc,HQ⟩
 ·exact wpAny_Name (wpAny_loadName_local I.ok.kind hk hn hm fin) hd
 ·rcases hk with hk|hk
  ·exact wpAny_Name (wpAny_loadName_cell I.ok.kind hk hc HQ fin) hd
  ·exact wpAny_Name (wpAny_loadName_free I.ok.kind hk hc HQ fin dM) hd
theorem Sl{i j pos}:PE X (.Constant (.int i) j pos) (tC (.int i)):=fun _ _ _ H _ I h=>wpAny_Constant_int ⟨.int i,H,I.tok _,⟨_,rfl⟩,h⟩
theorem U5{b j pos}:PE X (.Constant (.bool b) j pos) (tC (.bl b)):=fun _ _ _ H _ I h=>Constant_bool ⟨.bl b,H,I,rfl,h⟩
theorem Sn{j pos}:PE X (.Constant .none j pos) (tC .non):=fun _ _ _ H _ I h=>Constant_none ⟨.non,H,I,rfl,h⟩
theorem Sq{x j pos}:PE X (.Constant (.str x) j pos) (tC (.str x)):=fun _ _ _ H _ I h=>Calls.Constant_str ⟨.str x,H,I.tok _,⟨_,rfl⟩,h⟩
def Gl(X:Cx)(x:Str):Prop:=X.env.kindOf x=some .globalImplicit
theorem Qf{E:Value→Shared→Prop}{pins:List (Addr×Obj)}{s:Shared}{σ:St}{H:Hp}{x:Str}{u:Value}{pos:Pos}{Q:Value→Shared→Prop}(I:Inv X pins σ H s)(hg:Gl X x)(hm:X.mg x=some u)(h:Q u s)
  (hd:(x==("__debug__" : Str))=false:=by decide):wpAny (model X.prog X.w) X.A (eval (.Name x pos) X.env) Q E s :=
 Calls.Name_function_global I.ok.kind hg (Calls.loadGlobal_global (by rw[I.ok.glob];exact I.mod.glob.keeps I.bk) hm h) hd
theorem p7{E:Value→Shared→Prop}{pins:List (Addr×Obj)}{s:Shared}{σ:St}{H:Hp}{x:Str}{u:Value}{pos:Pos}{Q:Value→Shared→Prop}(I:Inv X pins σ H s)(hg:Gl X x)(hm:X.mg x=none)(hv:bootBuiltins x=some u)(h:Q u s)
  (hn:x ≠ "__name__" := by decide) (hd:(x==("__debug__" : Str))=false:=by decide):wpAny (model X.prog X.w) X.A (eval (.Name x pos) X.env) Q E s:=by
 obtain⟨mb,h1,h2⟩:=I.mod.blt
 exact Calls.Name_function_global I.ok.kind hg (Calls.loadGlobal_builtin (by rw[I.ok.glob];exact I.mod.glob.keeps I.bk) hm (by rw[I.ok.blt];exact h1.keeps I.bk) ((h2 x hn).trans hv) h) hd
theorem Qg {x:Str}{v:V}{u:Value}{pos:Pos} (hg:Gl X x) (hm:X.mg x=none) (hv:bootBuiltins x=some u) (r:RelV v u) (hn:x ≠ "__name__" := by decide) (hd:(x==("__debug__" : Str))=false:=by decide):PE X (.Name x pos) (tC v) :=
 fun _ _ _ H _ I h=>p7 I hg hm hv ⟨v,H,I,r,h⟩ hn hd
variable {a b:Expr}{ta tb:TE}{pos:Pos}
def PC(X:Cx)(op:CmpOp)(a b:Expr)(t:TE):Prop :=
 ∀(pins:List (Addr×Obj)) (s:Shared) (σ:St) (H:Hp) (Q:VK),Inv X pins σ H s→t σ H Q →
  wpAny (model X.prog X.w) X.A (eval a X.env) (fun v s₁=>wpAny (model X.prog X.w) X.A (eval b X.env) (fun u s₂=>wpAny (model X.prog X.w) X.A (compareOp op v u) (EP X pins σ Q) X.xe s₂) X.xe s₁) X.xe s
noncomputable def tB(t:TE):TT:=fun σ H Q=>t σ H fun x H1=>∃c,x=.bl c∧Q c H1
theorem v9{op:CmpOp}{t:TE}(h:PC X op a b t)(h1:behindInMarks op b=false:=by first|exact Y7 _ (by decide) (by decide)|rfl):PT X (.Compare a [op] [b] pos) (tB t):=by
 intro pins s σ H Q I hw
 refine wpAny_isTrue_Compare1 (aC (h pins s σ H _ I hw) fun v s1 h1=>aC h1 fun u s2 h2=>aC h2 fun c s3 ⟨x,H1,I1,r1,q1⟩=>?_) h1
 obtain⟨d,rfl,q⟩:=q1
 cases r1
 exact iO ⟨H1,I1,q⟩
variable {tA yk:TT}{rest:List Expr}
noncomputable def Jg(t u:TT):TT:=fun σ H Q=>t σ H fun c H1=>if c=true then u σ H1 Q else Q false H1
noncomputable def Kl(t u:TT):TT:=fun σ H Q=>t σ H fun c H1=>if c=true then Q true H1 else u σ H1 Q
noncomputable def Jh(t:TT):TT:=fun σ H Q=>t σ H fun c H1=>Q (!c) H1
theorem Qh(ha:PT X a tA):PW X (.BoolOp .And [a] pos) tA:=by
 intro wh pins s σ H Q I h
 refine isTrue_and (aC (ha pins s σ H Q I h) fun c s1 e=>?_)
 cases c with
 |true=>exact isTrue_and_nil e
 |false=>exact e
theorem Sr(ha:PT X a tA):PW X (.BoolOp .Or [a] pos) tA:=by
 intro wh pins s σ H Q I h
 refine isTrue_or (aC (ha pins s σ H Q I h) fun c s1 e=>?_)
 cases c with
 |false=>exact isTrue_or_nil e
 |true=>exact e
theorem Ss(ha:PT X a tA)(hb:PW X (.BoolOp .And (b::rest) pos) yk):PW X (.BoolOp .And (a::b::rest) pos) (Jg tA yk):=by
 intro wh pins s σ H Q I h
 refine isTrue_and (aC (ha pins s σ H _ I h) fun c s1 ⟨H1,I1,q1⟩=>?_)
 cases c with
 |true=>exact hb wh pins s1 σ H1 Q I1 q1
 |false=>exact⟨H1,I1,q1⟩
theorem U6(ha:PT X a tA)(hb:PW X (.BoolOp .Or (b::rest) pos) yk):PW X (.BoolOp .Or (a::b::rest) pos) (Kl tA yk):=by
 intro wh pins s σ H Q I h
 refine isTrue_or (aC (ha pins s σ H _ I h) fun c s1 ⟨H1,I1,q1⟩=>?_)
 cases c with
 |true=>exact⟨H1,I1,q1⟩
 |false=>exact hb wh pins s1 σ H1 Q I1 q1
theorem Sv(ha:PT X a tA):PT X (.UnaryOp .Not a pos) (Jh tA):=by
 intro pins s σ H Q I h
 exact isTrue_not (ha pins s σ H (fun c H1=>Q (!c) H1) I h)
noncomputable def HR(ta tb:TE):TE:=fun σ H Q=>ta σ H fun x H1=>∃c,x=.bl c∧if c=true then tb σ H1 Q else Q (.bl false) H1
noncomputable def Ji(ta tb:TE):TE:=fun σ H Q=>ta σ H fun x H1=>∃c,x=.bl c∧if c=true then Q (.bl true) H1 else tb σ H1 Q
noncomputable def HS(ta:TE):TE:=fun σ H Q=>ta σ H fun x H1=>∃c,x=.bl c∧Q (.bl (!c)) H1
theorem GK{op}{t:TE}(h:PE X a t):PE X (.BoolOp op [a] pos) t:=fun pins s σ H Q I hw=>BoolOp_one (h pins s σ H Q I hw)
theorem Sw(ha:PE X a ta)(hb:PE X (.BoolOp .And (b::rest) pos) tb):PE X (.BoolOp .And (a::b::rest) pos) (HR ta tb):=by
 intro pins s σ H Q I h
 refine BoolOp_and (aC (ha pins s σ H _ I h) fun v s1 ⟨x,H1,I1,r1,q1⟩=>?_)
 obtain⟨c,rfl,q1⟩:=q1
 cases r1
 refine iO ?_
 cases c with
 |true=>exact hb pins s1 σ H1 Q I1 q1
 |false=>exact⟨.bl false,H1,I1,rfl,q1⟩
theorem U7(ha:PE X a ta)(hb:PE X (.BoolOp .Or (b::rest) pos) tb):PE X (.BoolOp .Or (a::b::rest) pos) (Ji ta tb):=by
 intro pins s σ H Q I h
 refine BoolOp_or (aC (ha pins s σ H _ I h) fun v s1 ⟨x,H1,I1,r1,q1⟩=>?_)
 obtain⟨c,rfl,q1⟩:=q1
 cases r1
 refine iO ?_
 cases c with
 |false=>exact hb pins s1 σ H1 Q I1 q1
 |true=>exact⟨.bl true,H1,I1,rfl,q1⟩
theorem Sx(ha:PE X a ta):PE X (.UnaryOp .Not a pos) (HS ta):=by
 intro pins s σ H Q I h
 refine UnaryOp_ (aC (ha pins s σ H _ I h) fun v s1 ⟨x,H1,I1,r1,q1⟩=>?_)
 obtain⟨c,rfl,q1⟩:=q1
 cases r1
 exact not_of (iO ⟨.bl (!c),H1,I1,rfl,q1⟩)
noncomputable def Km(t:TT)(ta tb:TE):TE:=fun σ H Q=>t σ H fun c H1=>if c=true then ta σ H1 Q else tb σ H1 Q
theorem Oz{c:Expr}(hc:PT X c tA)(ha:PE X a ta)(hb:PE X b tb):PE X (.IfExp c a b pos) (Km tA ta tb):=by
 intro pins s σ H Q I h
 refine wpAny_IfExp (aC (hc pins s σ H _ I h) fun d s1 ⟨H1,I1,q1⟩=>?_)
 cases d with
 |true=>exact ha pins s1 σ H1 Q I1 q1
 |false=>exact hb pins s1 σ H1 Q I1 q1
end
def bw(K:PySem.W.Frag)(H:Hp)(a:Addr)(xs:List V):Prop :=
 Rd H a (.lst xs) ∨
  ∃(o:Obj) (its:Array Value) (n:Nat),K.lookup a=some o∧o.cls=.type "list" ∧ o.dict=none∧o.data=.seq its n∧its.size≤sizeLine∧Vals xs its.toList
def bf(K:PySem.W.Frag)(H:Hp)(a:Addr)(xs:List V):Prop :=
 H a=some (.tup xs) ∨
  ∃(o:Obj) (its:Array Value) (n:Nat),K.lookup a=some o∧o.cls=.type "tuple" ∧ o.dict=none∧o.data=.seq its n∧its.size≤sizeLine∧4≤its.size∧Vals xs its.toList
theorem bf.own{K:PySem.W.Frag}{H:Hp}{a:Addr}{xs:List V}(h:bf K H a xs)(hl:xs.length<4):H a=some (.tup xs):=by
 rcases h with h|⟨_,its,_,_,_,_,_,_,h4,r⟩
 ·exact h
 ·have:=r.length
  simp only[Array.length_toList]at this
  omega
noncomputable def qC:Value→Option V
 |.none=>some .non
 |.bool b=>some (.bl b)
 |.int i _=>some (.int i)
 |.str x _=>some (.str x)
 |.bytes b _=>some (.fZ b)
 |.float b _=>some (.uw b)
 |.ref a=>some (.ref a)
 |.type n=>some (.ty n)
 |_=>none
theorem RelV.abs{x:V}{u:Value}(r:RelV x u):qC u=some x:=by
 cases x with
 |non=>cases r;rfl
 |bl _=>cases r;rfl
 |int _=>obtain⟨t,rfl⟩:=r;rfl
 |str _=>obtain⟨t,rfl⟩:=r;rfl
 |fZ _=>obtain⟨t,rfl⟩:=r;rfl
 |uw _=>obtain⟨t,rfl⟩:=r;rfl
 |ref _=>cases r;rfl
 |ty _=>cases r;rfl
theorem RelV.inj{x y:V}{u:Value}(r:RelV x u)(q:RelV y u):x=y:=c9 (r.abs.symm.trans q.abs)
theorem Vals.inj:∀{xs ys:List V}{us:List Value},Vals xs us→Vals ys us→xs=ys
 |_,_,_,.nil,.nil=>rfl
 |_,_,_,.cons r t,.cons r' t'=>by rw[r.inj r',Vals.inj t t']
section
variable {X:Cx}{pins:List (Addr×Obj)}{σ:St}{H:Hp}{s:Shared}{a:Addr}{xs ys:List V}
theorem bf.of{K:PySem.W.Frag}(h:H a=some (.tup xs)):bf K H a xs:=.inl h
theorem Inv.list(I:Inv X pins σ H s)(h:bw X.K H a xs):∃its:List Value,Vals xs its∧PlainL s.heap a its.toArray∧xs.length≤sizeLine:=by
 rcases h with h|⟨o,its,n,hk,hc,hd,hs,hz,r⟩
 ·obtain⟨z,its,n,r,e⟩:=h.ok I.az
  exact⟨its,r,⟨_,n,e,rfl,rfl,rfl⟩,z⟩
 ·refine⟨its.toList,r,⟨o,n,I.gy a o hk,hc,hd,by simpa using hs⟩,?_⟩
  have e:=r.length
  simp only[Array.length_toList]at e
  omega
theorem Inv.tuple(I:Inv X pins σ H s)(h:bf X.K H a xs):∃its:List Value,Vals xs its∧IsTup s.heap a its.toArray∧xs.length≤sizeLine:=by
 rcases h with h|⟨o,its,n,hk,hc,_,hs,hz,_,r⟩
 ·obtain⟨z,its,r,p⟩:=I.az _ _ h
  exact⟨its,r,p.tup,z⟩
 ·refine⟨its.toList,r,⟨o,I.gy a o hk,hc,n,by simpa using hs⟩,?_⟩
  have e:=r.length
  simp only[Array.length_toList]at e
  omega
theorem Inv.vE(I:Inv X pins σ H s)(h:bw X.K H a xs)(h':bw X.K H a ys):xs=ys:=by
 obtain⟨its,r,⟨o,n,e,_,_,d⟩,_⟩:=I.list h
 obtain⟨its',r',⟨o',n',e',_,_,d'⟩,_⟩:=I.list h'
 rw[e]at e';cases e'
 rw[d]at d'
 injection d' with d1 _
 have:its=its':=by simpa using cP Array.toList d1
 subst this
 exact r.inj r'
theorem Inv.zv(I:Inv X pins σ H s)(h:bf X.K H a xs)(h':bf X.K H a ys):xs=ys:=by
 obtain⟨its,r,⟨o,e,_,n,d⟩,_⟩:=I.tuple h
 obtain⟨its',r',⟨o',e',_,n',d'⟩,_⟩:=I.tuple h'
 rw[e]at e';cases e'
 rw[d]at d'
 injection d' with d1 _
 have:its=its':=by simpa using cP Array.toList d1
 subst this
 exact r.inj r'
end
noncomputable abbrev Cx.wish(X:Cx)(E:Value→Shared→Prop):Cx:={ X with xe:=E }
noncomputable abbrev Cx.pf(X:Cx):Cx:=X.wish fun _ _=>False
theorem Cx.Ok.wish{X:Cx}(ok:X.Ok)(E:Value→Shared→Prop):(X.wish E).Ok :=
 ⟨ok.mod,ok.kind,ok.glob,ok.blt,ok.above,ok.inj,ok.has,ok.uA,ok.hd,ok.frames,ok.yj,ok.Ki,ok.bs,ok.kO,ok.tN,ok.xk,ok.iC,ok.q8⟩
theorem Cx.Ok.lD{X:Cx}{E:Value→Shared→Prop}(ok:(X.wish E).Ok):X.Ok :=
 ⟨ok.mod,ok.kind,ok.glob,ok.blt,ok.above,ok.inj,ok.has,ok.uA,ok.hd,ok.frames,ok.yj,ok.Ki,ok.bs,ok.kO,ok.tN,ok.xk,ok.iC,ok.q8⟩
section
variable {X:Cx}{pins:List (Addr×Obj)}{σ:St}{H:Hp}{s:Shared}{E:Value→Shared→Prop}
theorem Inv.wish(I:Inv X pins σ H s)(E:Value→Shared→Prop):Inv (X.wish E) pins σ H s:=⟨I.ok.wish E,I.os,I.bare,I.base,I.loc,I.cell,I.free,I.gE,I.pin,I.az,I.len⟩
theorem Inv.lD(I:Inv (X.wish E) pins σ H s):Inv X pins σ H s:=⟨I.ok.lD,I.os,I.bare,I.base,I.loc,I.cell,I.free,I.gE,I.pin,I.az,I.len⟩
theorem SP.lD{D:Ends}{f:Flow}{s':Shared}(h:SP (X.wish E) pins D f s'):SP X pins D f s':=by
 cases f with
 |next=>obtain⟨σ',H',I,q⟩:=h;exact⟨σ',H',I.lD,q⟩
 |brk=>obtain⟨σ',H',I,q⟩:=h;exact⟨σ',H',I.lD,q⟩
 |cont=>obtain⟨σ',H',I,q⟩:=h;exact⟨σ',H',I.lD,q⟩
 |ret u=>obtain⟨v,σ',H',I,r,q⟩:=h;exact⟨v,σ',H',I.lD,r,q⟩
theorem f6.pf{st:List Stmt}{t:TS}(h:f6 X.pf st t):f6 X st t:=fun pins s σ H D I hw =>
 fA (h pins s σ H D (I.wish _) hw) (fun _ _ q=>q.lD) fun _ _ z=>False.elim z
end
section
variable {X:Cx}{st:Stmt}{rest:List Stmt}{t u:TS}{e:Expr}{te:TE}{pos:Pos}
noncomputable def wG:TS:=fun D σ H=>D.nx σ H
noncomputable def lN(t u:TS):TS:=fun D σ H=>t { D with nx:=u D } σ H
theorem Qi:f6 X [] wG:=fun _ _ σ H _ I h=>xU ⟨σ,H,I,h⟩
theorem OB(h1:PS X st t)(h2:f6 X rest u):f6 X (st::rest) (lN t u):=by
 intro pins s σ H D I h
 refine wpAny_execs_cons (aC (h1 pins s σ H { D with nx:=u D } I h) fun f s1 q=>?_)
 cases f with
 |next =>
  obtain⟨σ',H',I',q⟩:=q
  exact h2 pins s1 σ' H' D I' q
 |ret v=>exact q
 |brk=>exact q
 |cont=>exact q
theorem Qj(h1:PS X st t):f6 X [st] t:=by
 intro pins s σ H D I h
 refine wpAny_execs_cons (aC (h1 pins s σ H D I h) fun f s1 q=>?_)
 cases f with
 |next=>exact xU q
 |ret v=>exact q
 |brk=>exact q
 |cont=>exact q
theorem Inv.quiet{pins:List (Addr×Obj)}{σ:St}{H:Hp}{s:Shared}(I:Inv X pins σ H s):interactive X.env=false:=by simp[interactive,I.ok.kind]
noncomputable def qo(te:TE):TS:=fun D σ H=>te σ H fun _ H1=>D.nx σ H1
theorem Qk(he:PE X e te)(hs:swapsWith e none pos.line X.env=pure false:=by rfl):PS X (.Expr e pos) (qo te):=by
 intro pins s σ H D I h
 exact wpAny_Expr_any (aC (he pins s σ H _ I h) fun v s1 ⟨x,H1,I1,r1,q1⟩=>⟨σ,H1,I1,q1⟩) I.quiet hs
noncomputable def tO(te:TE):TS:=fun D σ H=>te σ H D.rt
theorem Sy(he:PE X e te):PS X (.Return (some e) pos) (tO te):=by
 intro pins s σ H D I h
 exact wpAny_Return_some (aC (he pins s σ H _ I h) fun v s1 ⟨x,H1,I1,r1,q1⟩=>⟨x,σ,H1,I1,r1,q1⟩)
noncomputable def xn(c:TT)(t u:TS):TS:=fun D σ H=>c σ H fun b H1=>if b=true then t D σ H1 else u D σ H1
theorem U8{c:Expr}{a b:List Stmt}{tc:TT}(hc:PT X c tc)(ha:f6 X a t)(hb:f6 X b u):PS X (.If c a b pos) (xn tc t u):=by
 intro pins s σ H D I h
 refine wpAny_If (aC (hc pins s σ H _ I h) fun d s1 ⟨H1,I1,q1⟩=>?_)
 cases d with
 |true=>exact ha pins s1 σ H1 D I1 q1
 |false=>exact hb pins s1 σ H1 D I1 q1
end
noncomputable abbrev TG:=V→St→Hp→(St→Hp→Prop)→Prop
noncomputable abbrev gP:=List V→St→Hp→(St→Hp→Prop)→Prop
def PG(X:Cx)(target:Expr)(t:TG):Prop :=
 ∀(pins:List (Addr×Obj)) (s:Shared) (σ:St) (H:Hp) (v:V) (u:Value) (Q:St→Hp→Prop),Inv X pins σ H s→RelV v u→t v σ H Q →
  wpAny (model X.prog X.w) X.A (assign target X.env u) (fun _ s'=>∃σ' H',Inv X pins σ' H' s'∧Q σ' H') X.xe s
def rg(X:Cx)(ts:List Expr)(t:gP):Prop :=
 ∀(pins:List (Addr×Obj)) (s:Shared) (σ:St) (H:Hp) (vs:List V) (us:List Value) (Q:St→Hp→Prop),Inv X pins σ H s→Vals vs us→t vs σ H Q →
  wpAny (model X.prog X.w) X.A (assignInOrder ((assignEach ts X.env).map (·.2)) us) (fun _ s'=>∃σ' H',Inv X pins σ' H' s'∧Q σ' H') X.xe s
noncomputable abbrev AU:=V→V→V→Hp→(Hp→Prop)→Prop
def Jj(X:Cx)(t:AU):Prop :=
 ∀(pins:List (Addr×Obj)) (s:Shared) (σ:St) (H:Hp) (o i v:V) (ov iv u:Value) (Q:Hp→Prop),Inv X pins σ H s→RelV o ov→RelV i iv→RelV v u→t o i v H Q →
  wpAny (model X.prog X.w) X.A (setItem ov iv u) (fun _ s'=>∃H',Inv X pins σ H' s'∧Q H') X.xe s
section
variable {X:Cx}{pos:Pos}
noncomputable def g0(i:Nat):TG:=fun v σ H Q=>Q (σ.set i (some v)) H
theorem FL{i:Nat}{x:Str}(hN:X.N.Nodup)(hi:X.N[i]?=some x)(hx:Loc X.env.scope x)(hf:X.fn x=true∨X.env.scope.names.lookup x=some .local:=by first|exact .inl rfl|exact .inr rfl|assumption):PG X (.Name x pos) (g0 i):=by
 intro pins s σ H v u Q I r h
 exact wpAny_assign_Name (E4 I hN hi hx r (fun s' I'=>⟨_,H,I',h⟩) hf)
noncomputable def Jk:gP:=fun vs σ H Q=>vs=[]∧Q σ H
noncomputable def HV(t:TG)(u:gP):gP:=fun vs σ H Q=>∃v r,vs=v::r∧t v σ H fun σ' H'=>u r σ' H' Q
theorem Ql:rg X [] Jk:=by
 intro pins s σ H vs us Q I r h
 obtain⟨e,h⟩:=h
 subst e
 cases r
 exact assignInOrder_nil ⟨σ,H,I,h⟩
theorem OD{e:Expr}{es:List Expr}{t:TG}{u:gP}(h1:PG X e t)(h2:rg X es u)
  (hs:(assignEach (e::es) X.env).map (·.2)=assign e X.env::(assignEach es X.env).map (·.2):=by rfl):rg X (e::es) (HV t u):=by
 intro pins s σ H vs us Q I r h
 obtain⟨v,vr,e1,h⟩:=h
 subst e1
 cases r with
 |cons r rr =>
  rw[hs]
  refine assignInOrder_cons (aC (h1 pins s σ H _ _ _ I r h) fun _ s1 ⟨σ1,H1,I1,q1⟩=>?_)
  exact h2 pins s1 σ1 H1 _ _ Q I1 rr q1
noncomputable def Jl(K:PySem.W.Frag)(n:Nat)(t:gP):TG:=fun v σ H Q=>∃a xs,v=.ref a∧bf K H a xs∧xs.length=n∧t xs σ H Q
theorem Sz{es:List Expr}{k:Nat}{t:gP}{n:Nat}(hc:X.calm=true)(h:rg X es t)
  (hn:(assignEach es X.env).length=n:=by rfl) (B5:(assignEach es X.env).findIdx? (·.1)=none:=by rfl):PG X (.Tuple es k pos) (Jl X.K n t):=by
 intro pins s σ H v u Q I r hw
 obtain⟨a,xs,e1,hq,hl,hw⟩:=hw
 subst e1
 cases r
 obtain⟨its,rv,ht,hz⟩:=I.tuple hq
 refine assign_Tuple_tuple (I.ok.hd hc) ht (by simp[hn,←hl,rv.length]) B5 fun h' hx=>?_
 have I1:Inv X pins σ H { s with heap:=h' }:=I.kept (t':=s.toks) fun b o e=>hx b o (cK (bz e)) e
 exact h pins _ σ H xs _ Q I1 (by simpa using rv) hw
noncomputable def Jm(to ti:TE)(t:AU):TG:=fun v σ H Q=>to σ H fun o H1=>ti σ H1 fun i H2=>t o i v H2 fun H3=>Q σ H3
theorem SD{o i:Expr}{to ti:TE}{t:AU}(ho:PE X o to)(hi:PE X i ti)(hs:Jj X t)
  (ha:∀v,assign (.Subscript o i pos) X.env v=(do
   let ov ←holding [v] (eval o X.env)
   let iv ←holding [v,ov] (eval i X.env)
   standAt pos
   holding [v,ov,iv] (setItem ov iv v)
   release [v,ov,iv] []):=by intro _;rfl):PG X (.Subscript o i pos) (Jm to ti t):=by
 intro pins s σ H v u Q I r h
 rw[ha]
 refine av (lS (aC (ho pins s σ H _ I h) fun ov s1 ⟨x,H1,I1,r1,q1⟩=>?_))
 refine av (lS (aC (hi pins s1 σ H1 _ I1 q1) fun iv s2 ⟨y,H2,I2,r2,q2⟩=>?_))
 refine av (xV (av (lS (aC (hs pins s2 σ H2 x y v ov iv u _ I2 r1 r2 r q2) fun _ s3 ⟨H3,I3,q3⟩=>?_))))
 exact wpAny_release ⟨σ,H3,I3,q3⟩
noncomputable def gK(te:TE)(g:TG):TS:=fun D σ H=>te σ H fun x H1=>g x σ H1 D.nx
theorem SF{tg e:Expr}{te:TE}{g:TG}(he:PE X e te)(hg:PG X tg g)(hs:swapsWithSole [tg] e pos.line X.env=pure false:=by rfl)(hw:swappedStores [tg] e X.env=pure none:=by rfl)
  (h1:(assignEach [tg] X.env).map (·.2)=[assign tg X.env]:=by rfl):PS X (.Assign [tg] e pos) (gK te g):=by
 intro pins s σ H D I h
 refine wpAny_Assign_stores (aC (he pins s σ H _ I h) fun v s1 ⟨x,H1,I1,r1,q1⟩=>?_) hs hw
 rw[h1]
 exact aC (hg pins s1 σ H1 x v _ I1 r1 q1) fun _ s2 q=>q
theorem SJ{i:Nat}{x:Str}{e:Expr}{te:TE}{pos':Pos}(hN:X.N.Nodup)(hi:X.N[i]?=some x)(hx:Loc X.env.scope x)(he:PE X e te)(hs:swapsWith e (some (.Name x pos')) pos.line X.env=pure false:=by rfl)(hf:X.fn x=true∨X.env.scope.names.lookup x=some .local:=by first|exact .inl rfl|exact .inr rfl|assumption) :
  PS X (.Assign [.Name x pos'] e pos) (gK te (g0 i)):=by
 intro pins s σ H D I h
 refine wpAny_Assign_Name (aC (he pins s σ H _ I h) fun v s1 ⟨y,H1,I1,r1,q1⟩=>?_) hs
 exact E4 I1 hN hi hx r1 (fun s2 I2=>⟨_,H1,I2,q1⟩) hf
end
section
variable {X:Cx}{pos:Pos}
noncomputable def z9(c:TT)(tb:TS):TS:=fun D σ H=>∃W:Nat→St→Hp→Prop,(∃m,W m σ H)∧∀m σ H,W m σ H →
 c σ H fun b H1=>if b=true then ∃N:St→Hp→Prop,(∀σ' H',N σ' H'→∃m',m'<m∧W m' σ' H')∧tb { D with nx:=N,ct:=N,bk:=D.nx } σ H1 else D.nx σ H1
theorem OG{c:Expr}{body:List Stmt}{tc:TT}{tb:TS}(hp:PassesOwn (model X.prog X.w) X.A X.env X.xe)(hc:PT X c tc)(hb:f6 X body tb):PS X (.While c body [] pos) (z9 tc tb):=by
 intro pins s σ H D I h
 obtain⟨W,⟨m0,w0⟩,turn⟩:=h
 refine wpAny_While (codeAny_whileLoop (fun n s'=>∃σ' H',Inv X pins σ' H' s'∧W n σ' H') ?_ m0 ⟨σ,H,I,w0⟩)
 rintro n s1 ⟨σ1,H1,I1,w1⟩
 refine oU hp (aC (hc pins s1 σ1 H1 _ I1 (turn n σ1 H1 w1)) fun b s2 ⟨H2,I2,q2⟩=>?_)
 cases b with
 |true =>
  obtain⟨N,hN,q2⟩:=q2
  rw[if_pos rfl]
  refine oU hp (aC (hb pins s2 σ1 H2 _ I2 q2) fun f s3 q3=>?_)
  cases f with
  |next =>
   obtain⟨σ3,H3,I3,n3⟩:=q3
   obtain⟨m',hm,w3⟩:=hN σ3 H3 n3
   exact⟨m',hm,σ3,H3,I3,w3⟩
  |cont =>
   obtain⟨σ3,H3,I3,n3⟩:=q3
   obtain⟨m',hm,w3⟩:=hN σ3 H3 n3
   exact⟨m',hm,σ3,H3,I3,w3⟩
  |brk=>exact q3
  |ret v=>exact q3
 |false =>
  rw[if_neg aZ]
  exact xU ⟨σ1,H2,I2,q2⟩
end
structure It where
 go:Nat→Hp→Prop
 hX:Nat→Hp→V→Hp→Prop
 stop:Nat→Hp→Prop
def iE(X:Cx)(pins:List (Addr×Obj))(H:Hp)(b:Addr):Prop :=
 H b=none∧b≠X.env.locals∧b∉X.fs∧(b∈X.ex∨X.s₀.heap.objs.size≤b)∧(∀x c,X.env.cells.lookup x=some c→c≠b)∧∀p∈X.pn++pins,p.1≠b
theorem Inv.oF{X:Cx}{pins:List (Addr×Obj)}{σ:St}{H H':Hp}{s:Shared}{b:Addr}(I:Inv X pins σ H s)(hb:s.heap.objs.size≤b)(hn:H' b=none):iE X pins H' b:=by
 refine⟨hn,Nat.ne_of_gt (dI I.lt hb),I.Wm hb,.inr (bQ I.sz hb),fun x c e z=>?_,fun p hp z=>?_⟩
 ·obtain⟨v,q⟩:=I.cell x c e
  exact absurd (dI q.lt (by rw[z];exact hb)) (jA _)
 ·exact absurd (dI (bz (I.pin p hp).1) (by rw[z];exact hb)) (jA _)
structure Turn (P:Program)(w:World)(K:PySem.W.Frag)(tg:Expr)(J:It)(fp:List Addr)(it:Addr)(tn:Nat→Heap→Prop):Prop where
 mem:it∈fp
 obj:∀i h,tn i h→∀b∈fp,∃o,h.get? b=some o∧∀v,o.data≠.cell v
 keep:∀i h h',tn i h→(∀b∈fp,∀o,h.get? b=some o→h'.get? b=some o)→tn i h'
 item:∀(X:Cx),X.prog=P→X.w=w→X.K=K→X.calm=true→∀(i:Nat) (pins:List (Addr×Obj)) (s:Shared) (σ:St) (H:Hp) (E:Value→Shared→Prop),Inv X pins σ H s→(∀b∈fp,iE X pins H b)→tn i s.heap→J.go i H →
  wpAny (model P w) X.A (pyNext (.ref it)) (fun r s1=>∃u,r=some u ∧
   wpAny (model P w) X.A (letOwnedTupleGo tg (.ref it) u) (fun _ s2=>∃x H',Inv X pins σ H' s2∧RelV x u∧J.hX i H x H'∧tn (i+1) s2.heap∧∀b∈fp,H' b=none) E s1) E s
 done:∀(X:Cx),X.prog=P→X.w=w→X.K=K→X.calm=true→∀(i:Nat) (pins:List (Addr×Obj)) (s:Shared) (σ:St) (H:Hp) (E:Value→Shared→Prop),Inv X pins σ H s→(∀b∈fp,iE X pins H b)→tn i s.heap→J.stop i H →
  wpAny (model P w) X.A (pyNext (.ref it)) (fun r s1=>r=none∧Inv X pins σ H s1) E s
 self:∀(A:Around) (i:Nat) (s:Shared) (Q:Value→Shared→Prop) (E:Value→Shared→Prop),tn i s.heap→Q (.ref it) s→wpAny (model P w) A (pyIter (.ref it)) Q E s
noncomputable abbrev TI:=St→Hp→(It→Hp→Prop)→Prop
def Kn(X:Cx)(pins:List (Addr×Obj))(σ:St)(tg:Expr)(R:It→Hp→Prop)(yl:Value)(s2:Shared):Prop :=
 ∃(it:Addr) (fp:List Addr) (tn:Nat→Heap→Prop) (J:It) (H':Hp),yl=.ref it∧Inv X pins σ H' s2∧Turn X.prog X.w X.K tg J fp it tn∧tn 0 s2.heap∧(∀b∈fp,iE X pins H' b)∧R J H'
def PI(X:Cx)(tg iter:Expr)(wi:TI):Prop :=
 ∀(pins:List (Addr×Obj)) (s:Shared) (σ:St) (H:Hp) (R:It→Hp→Prop),Inv X pins σ H s→wi σ H R →
  wpAny (model X.prog X.w) X.A (eval iter X.env) (fun v s1=>wpAny (model X.prog X.w) X.A (pyIter v) (Kn X pins σ tg R) X.xe s1) X.xe s
theorem sY{M:Model}{A:Around}{E:Value→Shared→Prop}{s:Shared}{tg:Expr}{it:Addr}{u:Value}{o:Obj}{n:String}{vs:Array Value}{Q:Unit→Shared→Prop}(ho:s.heap.get? it=some o)(hc:o.cls=.type n)(hd:o.data=.fields vs)
    (hn:["enumerate", "zip", "dict_itemiterator", "dict_reverseitemiterator", "odict_iterator", "itertools.zip_longest", "itertools.pairwise"].contains n=false) (hQ:Q () s):wpAny M A (letOwnedTupleGo tg (.ref it) u) Q E s:=by
  unfold letOwnedTupleGo
  cases tg<;>first
    |exact aO hQ
    | (cases u<;>first
        |exact aO hQ
        | (refine av (wpAny_load ho ?_)
           rw[hc,hd]
           show wpAny M A (if (["enumerate", "zip", "dict_itemiterator", "dict_reverseitemiterator", "odict_iterator", "itertools.zip_longest", "itertools.pairwise"].contains n&&vs[0]?==some (rawInt _))=true then _ else _) Q E s
           rw[if_neg (by intro h;rw[hn,Bool.false_and]at h;cases h)]
           exact aO hQ))
noncomputable def B6(K:PySem.W.Frag)(a:Addr):It :=
 ⟨fun i H=>∃xs x,bw K H a xs∧xs[i]?=some x,fun i H x H'=>H'=H∧∀xs,bw K H a xs→xs[i]?=some x,fun i H=>∃xs,bw K H a xs∧xs.length≤i⟩
noncomputable def B7(K:PySem.W.Frag)(a:Addr):It :=
 ⟨fun i H=>∃xs x,bf K H a xs∧xs[i]?=some x,fun i H x H'=>H'=H∧∀xs,bf K H a xs→xs[i]?=some x,fun i H=>∃xs,bf K H a xs∧xs.length≤i⟩
noncomputable def ym(lo:Int)(n:Nat):It:=⟨fun i _=>i<n,fun i H x H'=>H'=H∧x=.int (lo+i),fun i _=>n≤i⟩
theorem Nr{P:Program}{w:World}{K:PySem.W.Frag}{tg:Expr}(a it:Addr):Turn P w K tg (B6 K a) [it] it (fun i h=>h.IsListIter it a i) where
 mem:=by simp
 obj:=fun i h st b hb=>by
  have e:b=it:=by simpa using hb
  subst e
  obtain⟨o,e,c,d⟩:=st
  exact⟨o,e,fun v z=>by rw[d]at z;cases z⟩
 keep:=fun i h h' st k=>st.at fun o e=>k it (by simp) o e
 item:=by
  intro X hP hw hK hc i pins s σ H E I hf st hg
  subst hP hw hK
  obtain⟨xs,x,hq,hx⟩:=hg
  obtain⟨its,rv,p,hz⟩:=I.list hq
  obtain⟨u,hu,ru⟩:=rv.get hx
  obtain⟨f0,f1,f2,f3,f4,f5⟩:=hf it (by simp)
  refine wpAny_pyNext_list_item st p.isList (x:=u) (by simpa using hu) fun h' gA sb=>?_
  have I1:Inv X pins σ H { s with heap:=h' }:=I.turned (t':=s.toks) (fun b o hb e=>(sb.2 b hb).trans e) f0 f1 f3 f4 f5
  obtain⟨o,e,c,d⟩:=id gA
  exact⟨u,rfl,sY (s:={ s with heap:=h' }) e c d (by decide) ⟨x,H,I1,ru,⟨rfl,fun ys hy=>by rw[I.vE hy hq];exact hx⟩,gA,fun b hb=>(hf b hb).1⟩⟩
 done:=by
  intro X hP hw hK hc i pins s σ H E I hf st hg
  subst hP hw hK
  obtain⟨xs,hq,hx⟩:=hg
  obtain⟨its,rv,p,hz⟩:=I.list hq
  obtain⟨f0,f1,f2,f3,f4,f5⟩:=hf it (by simp)
  have hl:=rv.length
  exact wpAny_pyNext_list_end (I.ok.hd hc) st p.isList (by simp;omega) fun h' eb=>⟨rfl,I.turned (t':=s.toks) (fun b o hb e=>eb b o hb e) f0 f1 f3 f4 f5⟩
 self:=fun _ _ _ _ _ st h=>wpAny_pyIter_listiter st h
theorem MQ{P:Program}{w:World}{K:PySem.W.Frag}{tg:Expr}(a it:Addr):Turn P w K tg (B7 K a) [it] it (fun i h=>h.IsTupleIter it a i) where
 mem:=by simp
 obj:=fun i h st b hb=>by
  have e:b=it:=by simpa using hb
  subst e
  obtain⟨o,e,c,d⟩:=st
  exact⟨o,e,fun v z=>by rw[d]at z;cases z⟩
 keep:=fun i h h' st k=>st.at fun o e=>k it (by simp) o e
 item:=by
  intro X hP hw hK hc i pins s σ H E I hf st hg
  subst hP hw hK
  obtain⟨xs,x,hq,hx⟩:=hg
  obtain⟨its,rv,p,hz⟩:=I.tuple hq
  obtain⟨u,hu,ru⟩:=rv.get hx
  obtain⟨f0,f1,f2,f3,f4,f5⟩:=hf it (by simp)
  refine wpAny_pyNext_tuple_item st (show s.heap.IsTuple a its.toArray from p) (x:=u) (by simpa using hu) fun h' gA sb=>?_
  have I1:Inv X pins σ H { s with heap:=h' }:=I.turned (t':=s.toks) (fun b o hb e=>(sb.2 b hb).trans e) f0 f1 f3 f4 f5
  obtain⟨o,e,c,d⟩:=id gA
  exact⟨u,rfl,sY (s:={ s with heap:=h' }) e c d (by decide) ⟨x,H,I1,ru,⟨rfl,fun ys hy=>by rw[I.zv hy hq];exact hx⟩,gA,fun b hb=>(hf b hb).1⟩⟩
 done:=by
  intro X hP hw hK hc i pins s σ H E I hf st hg
  subst hP hw hK
  obtain⟨xs,hq,hx⟩:=hg
  obtain⟨its,rv,p,hz⟩:=I.tuple hq
  obtain⟨f0,f1,f2,f3,f4,f5⟩:=hf it (by simp)
  have hl:=rv.length
  exact wpAny_pyNext_tuple_end (I.ok.hd hc) st (show s.heap.IsTuple a its.toArray from p) (by simp;omega) fun h' eb=>⟨rfl,I.turned (t':=s.toks) (fun b o hb e=>eb b o hb e) f0 f1 f3 f4 f5⟩
 self:=fun _ _ _ _ _ st h=>wpAny_pyIter_tupleiter st h
theorem MR{P:Program}{w:World}{K:PySem.W.Frag}{tg:Expr}(it:Addr)(lo:Int)(n:Nat):Turn P w K tg (ym lo n) [it] it (fun i h=>IsRangeIter h it (lo+(i:Nat)*1) ((n:Int)-(i:Nat)) 1) where
 mem:=by simp
 obj:=fun i h st b hb=>by
  have e:b=it:=by simpa using hb
  subst e
  exact⟨_,st,fun v z=>by
   have z':Data.fields _=Data.cell v:=z
   cases z'⟩
 keep:=fun i h h' st k=>k it (by simp) _ st
 item:=by
  intro X hP hw hK hc i pins s σ H E I hf st hg
  subst hP hw hK
  obtain⟨f0,f1,f2,f3,f4,f5⟩:=hf it (by simp)
  have W:=Walks.range (prog:=X.prog) (w:=X.w) (I.ok.hd hc) it lo 1 n
  refine W.item i s _ _ hg st fun v h' tk hv gA kk=>?_
  obtain⟨t,rfl⟩:=hv
  have I1:Inv X pins σ H { s with heap:=h',toks:=tk }:=I.turned (fun b o hb e=>kk b o (by simpa using hb) e) f0 f1 f3 f4 f5
  refine⟨_,rfl,sY (s:={ s with heap:=h',toks:=tk }) (n := "range_iterator") gA rfl rfl (by decide) ⟨.int (lo+i),H,I1,⟨t,?_⟩,⟨rfl,rfl⟩,gA,fun b hb=>(hf b hb).1⟩⟩
  rw[Int.mul_one]
 done:=by
  intro X hP hw hK hc i pins s σ H E I hf st hg
  subst hP hw hK
  obtain⟨f0,f1,f2,f3,f4,f5⟩:=hf it (by simp)
  exact wpAny_pyNext_range_end (I.ok.hd hc) st (by have:n≤i:=hg;omega) fun h' eb=>⟨rfl,I.turned (t':=s.toks) (fun b o hb e=>eb b o hb e) f0 f1 f3 f4 f5⟩
 self:=fun _ _ _ _ _ st h=>wpAny_pyIter_rangeiter st h
section
variable {X:Cx}{tg:Expr}
noncomputable def Ax(K:PySem.W.Frag)(tl:TE):TI:=fun σ H R=>tl σ H fun x H1=>∃a,x=.ref a∧(∃xs,bw K H1 a xs)∧R (B6 K a) H1
noncomputable def AV(K:PySem.W.Frag)(tl:TE):TI:=fun σ H R=>tl σ H fun x H1=>∃a,x=.ref a∧(∃xs,bf K H1 a xs)∧R (B7 K a) H1
theorem Qm{l:Expr}{tl:TE}(hl:PE X l tl):PI X tg l (Ax X.K tl):=by
 intro pins s σ H R I h
 refine aC (hl pins s σ H _ I h) fun v s1 ⟨x,H1,I1,r1,q1⟩=>?_
 obtain⟨a,e,⟨xs,hq⟩,q⟩:=q1
 subst e
 cases r1
 obtain⟨its,rv,p,hz⟩:=I1.list hq
 refine wpAny_pyIter_list p.isList ?_
 refine⟨s1.heap.objs.size,[s1.heap.objs.size],_,_,H1,rfl,I1.kept (t':=s1.toks) fun b o e=>cy _ e,Nr a _,⟨_,eU _ rfl,rfl,rfl⟩,fun b hb=>?_,q⟩
 have e:b=s1.heap.objs.size:=by simpa using hb
 subst e
 exact I1.oF (aR _) (I1.az.fresh (aR _))
theorem SK{l:Expr}{tl:TE}(hl:PE X l tl):PI X tg l (AV X.K tl):=by
 intro pins s σ H R I h
 refine aC (hl pins s σ H _ I h) fun v s1 ⟨x,H1,I1,r1,q1⟩=>?_
 obtain⟨a,e,⟨xs,hq⟩,q⟩:=q1
 subst e
 cases r1
 obtain⟨its,rv,p,hz⟩:=I1.tuple hq
 refine wpAny_pyIter_tuple (show s1.heap.IsTuple a its.toArray from p) ?_
 refine⟨s1.heap.objs.size,[s1.heap.objs.size],_,_,H1,rfl,I1.kept (t':=s1.toks) fun b o e=>cy _ e,MQ a _,⟨_,eU _ rfl,rfl,rfl⟩,fun b hb=>?_,q⟩
 have e:b=s1.heap.objs.size:=by simpa using hb
 subst e
 exact I1.oF (aR _) (I1.az.fresh (aR _))
theorem OI{pins:List (Addr×Obj)}{σ:St}{H:Hp}{s:Shared}{R:It→Hp→Prop}{E:Value→Shared→Prop}{lo hi:Int}{t u v:Tok}{tk:Nat}(I:Inv X pins σ H s)(h1:-(2^62)≤lo)(h2:lo<2^62)(h3:-(2^62)≤hi)(h4:hi<2^62)
  (q:R (ym lo (hi-lo).toNat) H):wpAny (model X.prog X.w) X.A (pyIter (.ref s.heap.objs.size)) (Kn X pins σ tg R) E { s with heap:=s.heap.push { cls:=.type "range",data:=.fields #[.int lo t,.int hi u,.int 1 v] },toks:=tk }:=by
 refine wpAny_pyIter_range (IsRange.new ..) (small_one h1 h2 h3 h4) ?_
 have I1:Inv X pins σ H { s with heap:=s.heap.push { cls:=.type "range",data:=.fields #[.int lo t,.int hi u,.int 1 v] },toks:=tk }:=I.kept fun b o e=>cy _ e
 refine⟨(s.heap.push { cls:=.type "range",data:=.fields #[.int lo t,.int hi u,.int 1 v] }).objs.size,[(s.heap.push { cls:=.type "range",data:=.fields #[.int lo t,.int hi u,.int 1 v] }).objs.size],_,_,H,rfl,
  I1.kept (t':=tk) fun b o e=>cy _ e,MR _ lo (hi-lo).toNat,?_,fun b hb=>?_,q⟩
 ·have e1:lo+((0:Nat):Int)*1=lo:=by simp
  have e2:(((hi-lo).toNat:Nat):Int)-((0:Nat):Int)=Builtin.Range.rangeSize lo hi 1:=by rw[rangeSize_one];split<;>omega
  show IsRangeIter _ _ (lo+((0:Nat):Int)*1) ((((hi-lo).toNat:Nat):Int)-((0:Nat):Int)) 1
  rw[e1,e2]
  exact eU _ rfl
 ·have e:b=(s.heap.push { cls:=.type "range",data:=.fields #[.int lo t,.int hi u,.int 1 v] }).objs.size:=by simpa using hb
  subst e
  exact I1.oF (aR _) (I1.az.fresh (aR _))
noncomputable def HW(ta:TA):TI:=fun σ H R=>ta σ H fun vs H1=>∃j:Int,vs=[.int j]∧-(2^62)≤j∧j<2^62∧R (ym 0 j.toNat) H1
theorem Nt {a:Expr}{ta:TA}{p pos:Pos} (hg:Gl X "range") (hm:X.mg "range" = none) (ha:PA X [a] ta) (hs:starEach [a] X.env=[(false,eval a X.env)]:=by rfl):PI X tg (.Call (.Name "range" p) [a] [] pos) (HW ta):=by
 intro pins s σ H R I h
 refine Call_ (p7 I hg hm boot_range (xW (aC (ha pos pins s σ H _ I h) fun us s1 ⟨vs,H1,I1,r1,q1⟩=>?_) hs rfl))
 obtain⟨j,e,q1,q2,q⟩:=q1
 subst e
 cases r1 with
 |cons r rr =>
  cases rr
  obtain⟨t,rfl⟩:=r
  exact call_range_1 (OI I1 (by omega) (by omega) q1 q2 (by simpa using q))
noncomputable def km(wi:TI)(g:TG)(tb:TS):TS:=fun D σ H=>wi σ H fun J H1=>∃W:Nat→Nat→St→Hp→Prop,(∃m,W 0 m σ H1)∧∀i m σ H,W i m σ H →
 (J.stop i H∧D.nx σ H)∨(J.go i H∧∃N:St→Hp→Prop,(∀σ' H',N σ' H'→∃m',m'<m∧W (i+1) m' σ' H')∧∀x H',J.hX i H x H'→g x σ H' fun σ2 H2=>tb { D with nx:=N,ct:=N,bk:=D.nx } σ2 H2)
noncomputable def sF(fp:List Addr)(h:Heap):List (Addr×Obj):=fp.filterMap fun b=>(h.get? b).map fun o=>(b,o)
theorem vD{fp:List Addr}{h:Heap}{b:Addr}{o:Obj}(hb:b∈fp)(e:h.get? b=some o):(b,o)∈sF fp h:=List.mem_filterMap.mpr ⟨b,hb,by rw[e];rfl⟩
theorem Nu{fp:List Addr}{h:Heap}{p:Addr×Obj}(hp:p∈sF fp h):p.1∈fp∧h.get? p.1=some p.2:=by
 obtain⟨b,hb,e⟩:=List.mem_filterMap.mp hp
 cases q:h.get? b with
 |none=>rw[q]at e;cases e
 |some o =>
  rw[q]at e
  have e':(b,o)=p:=c9 e
  subst e'
  exact⟨hb,q⟩
theorem Inv.pinned{pins:List (Addr×Obj)}{σ:St}{H:Hp}{s:Shared}{fp:List Addr}(I:Inv X pins σ H s)(hf:∀b∈fp,iE X pins H b)(ho:∀b∈fp,∃o,s.heap.get? b=some o∧∀v,o.data≠.cell v):Inv X (pins++sF fp s.heap) σ H s :=
 I.FK fun p hp=>(fX.mp hp).elim (fun z=>I.pin p (iP _ z)) fun z=>by
  obtain⟨hb,e⟩:=Nu z
  obtain⟨f0,f1,f2,_⟩:=hf p.1 hb
  obtain⟨o,e',d⟩:=ho p.1 hb
  rw[e]at e';cases e'
  exact⟨e,f0,f1,f2,d⟩
theorem Inv.vF{pins pl:List (Addr×Obj)}{σ:St}{H:Hp}{s:Shared}(I:Inv X (pins++pl) σ H s):Inv X pins σ H s:=I.FK fun p hp=>I.pin p (iP _ (uh _ hp))
theorem SM{iter:Expr}{body:List Stmt}{wi:TI}{g:TG}{tb:TS}{pos:Pos}(hp:PassesOwn (model X.prog X.w) X.A X.env X.xe)(hc:X.calm=true)(hi:PI X tg iter wi)(hg:PG X tg g)(hb:f6 X body tb)
  (hs:∀x,foldedSetIterable iter X.env x=pure x:=by intro _;rfl):PS X (.For tg iter body [] pos) (km wi g tb):=by
 intro pins s σ H D I h
 refine wpAny_For (aC (hi pins s σ H _ I h) fun v s1 h1=>aC h1 fun yl s2 h2=>?_) hs
 obtain⟨it,fp,tn,J,H2,e,I2,T,eV,f2,W,⟨m0,w0⟩,turn⟩:=h2
 subst e
 have stat:∀{H':Hp},(∀b∈fp,H' b=none)→∀b∈fp,iE X pins H' b:=fun hn b hb=>⟨hn b hb,(f2 b hb).2⟩
 refine codeAny_forLoop_any (fun n s'=>∃i σ' H',Inv X pins σ' H' s'∧tn i s'.heap∧(∀b∈fp,H' b=none)∧W i n σ' H') ?_ m0 ⟨0,σ,H2,I2,eV,fun b hb=>(f2 b hb).1,w0⟩
 rintro n s3 ⟨i,σ3,H3,I3,f7,uF,w3⟩
 rcases turn i n σ3 H3 w3 with⟨stop,qn⟩|⟨go,N,hN,step⟩
 ·refine oU hp (aC (T.done X rfl rfl rfl hc i pins s3 σ3 H3 X.xe I3 (stat uF) f7 stop) fun r s4 ⟨hr,I4⟩=>?_)
  subst hr
  exact xU ⟨σ3,H3,I4,qn⟩
 ·refine oU hp (aC (T.item X rfl rfl rfl hc i pins s3 σ3 H3 X.xe I3 (stat uF) f7 go) fun r s4 ⟨u,hr,h4⟩=>?_)
  subst hr
  refine oU hp (aC h4 fun _ s5 ⟨x,H5,I5,r5,y5,dS,B8⟩=>?_)
  have B9:=I5.pinned (stat B8) (T.obj _ _ dS)
  refine oU hp (aC (hg _ s5 σ3 H5 x u _ B9 r5 (step x H5 y5)) fun _ s6 ⟨σ6,H6,I6,q6⟩=>?_)
  refine oU hp (aC (hb _ s6 σ6 H6 _ I6 q6) fun f s7 q7=>?_)
  have again:∀{σ7:St}{H7:Hp},Inv X (pins++sF fp s5.heap) σ7 H7 s7→N σ7 H7→∃m,m<n∧∃i σ' H',Inv X pins σ' H' s7∧tn i s7.heap∧(∀b∈fp,H' b=none)∧W i m σ' H':=fun {σ7 H7} I7 n7=>by
   obtain⟨m',hm,w7⟩:=hN σ7 H7 n7
   refine⟨m',hm,i+1,σ7,H7,I7.vF,T.keep _ _ _ dS fun b hb o e=>(I7.pin (b,o) (iP _ (iP _ (vD hb e)))).1,fun b hb=>?_,w7⟩
   obtain⟨o,e,d⟩:=T.obj _ _ dS b hb
   exact(I7.pin (b,o) (iP _ (iP _ (vD hb e)))).2.1
  cases f with
  |next=>obtain⟨σ7,H7,I7,n7⟩:=q7;exact again I7 n7
  |cont=>obtain⟨σ7,H7,I7,n7⟩:=q7;exact again I7 n7
  |brk=>obtain⟨σ7,H7,I7,q7⟩:=q7;exact⟨σ7,H7,I7.vF,q7⟩
  |ret v=>obtain⟨x7,σ7,H7,I7,r7,q7⟩:=q7;exact⟨x7,σ7,H7,I7.vF,r7,q7⟩
end
noncomputable abbrev R2:=V→V→Hp→VK→Prop
def bA(X:Cx)(f:Value→Value→Sem Value)(r:R2):Prop :=
 ∀(pins:List (Addr×Obj)) (s:Shared) (σ:St) (H:Hp) (x y:V) (v u:Value) (Q:VK),Inv X pins σ H s→RelV x v→RelV y u→r x y H Q →
  wpAny (model X.prog X.w) X.A (f v u) (EP X pins σ Q) X.xe s
def yn(X:Cx)(f:Value→Sem Value)(r:V→Hp→VK→Prop):Prop :=
 ∀(pins:List (Addr×Obj)) (s:Shared) (σ:St) (H:Hp) (x:V) (v:Value) (Q:VK),Inv X pins σ H s→RelV x v→r x H Q →
  wpAny (model X.prog X.w) X.A (f v) (EP X pins σ Q) X.xe s
def gp(X:Cx)(f:Value)(r:List V→Hp→VK→Prop):Prop :=
 ∀(pins:List (Addr×Obj)) (s:Shared) (σ:St) (H:Hp) (xs:List V) (us:List Value) (Q:VK),Inv X pins σ H s→Vals xs us→r xs H Q →
  wpAny (model X.prog X.w) X.A (call f us) (EP X pins σ Q) X.xe s
def Wq(X:Cx)(r:V→Hp→(Bool→Hp→Prop)→Prop):Prop :=
 ∀(pins:List (Addr×Obj)) (s:Shared) (σ:St) (H:Hp) (x:V) (v:Value) (Q:Bool→Hp→Prop),Inv X pins σ H s→RelV x v→r x H Q →
  wpAny (model X.prog X.w) X.A (truthy v) (TP X pins σ Q) X.xe s
noncomputable def lZ(r:R2)(ta tb:TE):TE:=fun σ H Q=>ta σ H fun x H1=>tb σ H1 fun y H2=>r x y H2 Q
noncomputable def Kp(r:V→Hp→VK→Prop)(ta:TE):TE:=fun σ H Q=>ta σ H fun x H1=>r x H1 Q
noncomputable def rI(C:Int→Int→Prop)(g:Int→Int→V):R2:=fun x y H Q=>∃i j,x=.int i∧y=.int j∧C i j∧Q (g i j) H
noncomputable def dU(g:Int→Int→V):R2:=fun x y H Q=>∃i j,x=.int i∧y=.int j∧Q (g i j) H
def rU(g:Int→V):V→Hp→VK→Prop:=fun x H Q=>∃i,x=.int i∧Q (g i) H
section
variable {X:Cx}{a b c:Expr}{ta tb tc:TE}{pos:Pos}
theorem AW(ha:PE X a ta)(hb:PE X b tb){pins:List (Addr×Obj)}{s:Shared}{σ:St}{H:Hp}{R:V→V→Hp→Prop}(I:Inv X pins σ H s)
  (h:ta σ H fun x H1=>tb σ H1 fun y H2=>R x y H2) {Q:Value→Shared→Prop}{f:Value→Value→Sem Value}
  (hf:∀v u s2 x y H2,Inv X pins σ H2 s2→RelV x v→RelV y u→R x y H2→wpAny (model X.prog X.w) X.A (f v u) Q X.xe s2) :
  wpAny (model X.prog X.w) X.A (eval a X.env) (fun v s₁=>wpAny (model X.prog X.w) X.A (eval b X.env) (fun u s₂=>wpAny (model X.prog X.w) X.A (f v u) Q X.xe s₂) X.xe s₁) X.xe s:=by
 refine aC (ha pins s σ H _ I h) fun v s1 ⟨x,H1,I1,r1,q1⟩=>?_
 refine aC (hb pins s1 σ H1 _ I1 q1) fun u s2 ⟨y,H2,I2,r2,q2⟩=>?_
 exact hf v u s2 x y H2 I2 r1 r2 q2
theorem U9{op:Operator}{r:R2}(ho:bA X (binaryOp op) r)(ha:PE X a ta)(hb:PE X b tb):PE X (.BinOp a op b pos) (lZ r ta tb):=by
 intro pins s σ H Q I h
 exact wpAny_BinOp (AW ha hb I h fun v u s2 x y H2 I2 rx ry q=>ho pins s2 σ H2 x y v u Q I2 rx ry q)
theorem Va{op:UnaryOp}{r:V→Hp→VK→Prop}(ho:yn X (unaryOp op) r)(ha:PE X a ta):PE X (.UnaryOp op a pos) (Kp r ta):=by
 intro pins s σ H Q I h
 exact UnaryOp_ (aC (ha pins s σ H _ I h) fun v s1 ⟨x,H1,I1,r1,q1⟩=>ho pins s1 σ H1 x v Q I1 r1 q1)
theorem yo{f:Value→Value→Sem Value}{C:Int→Int→Prop}{g:Int→Int→Int}
  (rule:∀(i j:Int) (t u:Tok) (s:Shared) (Q:Value→Shared→Prop) (E:Value→Shared→Prop),C i j→Q (.int (g i j) s.toks) { s with toks:=s.toks+1 }→wpAny (model X.prog X.w) X.A (f (.int i t) (.int j u)) Q E s) :
  bA X f (rI C fun i j=>.int (g i j)):=by
 intro pins s σ H x y v u Q I rx ry h
 obtain⟨i,j,rfl,rfl,hc,q⟩:=h
 obtain⟨t,rfl⟩:=rx
 obtain⟨t',rfl⟩:=ry
 exact rule i j t t' s _ _ hc ⟨.int (g i j),H,I.tok _,⟨_,rfl⟩,q⟩
theorem tP{f:Value→Value→Sem Value}{g:Int→Int→Int}
  (rule:∀(i j:Int) (t u:Tok) (s:Shared) (Q:Value→Shared→Prop) (E:Value→Shared→Prop),Q (.int (g i j) s.toks) { s with toks:=s.toks+1 }→wpAny (model X.prog X.w) X.A (f (.int i t) (.int j u)) Q E s) :
  bA X f (dU fun i j=>.int (g i j)):=by
 intro pins s σ H x y v u Q I rx ry h
 obtain⟨i,j,rfl,rfl,q⟩:=h
 obtain⟨t,rfl⟩:=rx
 obtain⟨t',rfl⟩:=ry
 exact rule i j t t' s _ _ ⟨.int (g i j),H,I.tok _,⟨_,rfl⟩,q⟩
theorem Jn{f:Value→Value→Sem Value}{g:Int→Int→Bool}
  (rule:∀(i j:Int) (t u:Tok) (s:Shared) (Q:Value→Shared→Prop) (E:Value→Shared→Prop),Q (.bool (g i j)) s→wpAny (model X.prog X.w) X.A (f (.int i t) (.int j u)) Q E s) :
  bA X f (dU fun i j=>.bl (g i j)):=by
 intro pins s σ H x y v u Q I rx ry h
 obtain⟨i,j,rfl,rfl,q⟩:=h
 obtain⟨t,rfl⟩:=rx
 obtain⟨t',rfl⟩:=ry
 exact rule i j t t' s _ _ ⟨.bl (g i j),H,I,rfl,q⟩
def Jo(i j:Int):Prop:=0≤j∧j≤1000000∧i.natAbs<2^64
def tQ(i j:Int):Prop:=(-(2^64)<i∧i<2^64)∨(-(2^64)<j∧j<2^64)
theorem tQ.ok{i j:Int}(h:tQ i j):IntMulOk i j:=by
 rcases h with⟨h1,h2⟩|⟨h1,h2⟩
 ·exact .of_left (intBits_le_64 h1 h2)
 ·exact .of_right (intBits_le_64 h1 h2)
theorem SN:bA X (binaryOp .Add) (dU fun i j=>.int (i+j)):=tP fun _ _ _ _ _ _ _ q=>add_int q
theorem SQ:bA X (binaryOp .Sub) (dU fun i j=>.int (i-j)):=tP fun _ _ _ _ _ _ _ q=>sub_int q
theorem SR:bA X (binaryOp .Mult) (rI tQ fun i j=>.int (i*j)):=yo fun _ _ _ _ _ _ _ hc q=>mul_int q hc.ok
theorem SV:bA X (binaryOp .Mod) (rI (fun _ j=>0<j) fun i j=>.int (i%j)):=yo fun i j _ _ _ _ _ hc q=>by
 have h1:(0:Int)<j:=hc
 exact mod_int' (by omega) (by rw[Int.fmod_eq_emod_of_nonneg i (by omega)];exact q)
theorem SW:bA X (binaryOp .Pow) (rI Jo fun i j=>.int (i^j.toNat)):=yo fun _ _ _ _ _ _ _ hc q=>pow_int_small hc.1 hc.2.1 hc.2.2 q
theorem SX:bA X (binaryOp .BitAnd) (dU fun i j=>.int (Builtin.bitAnd i j)):=tP fun _ _ _ _ _ _ _ q=>and_int q
theorem Vb:bA X (binaryOp .BitOr) (dU fun i j=>.int (Builtin.bitOr i j)):=tP fun _ _ _ _ _ _ _ q=>or_int q
theorem SY:bA X (binaryOp .BitXor) (dU fun i j=>.int (Builtin.bitXor i j)):=tP fun _ _ _ _ _ _ _ q=>xor_int q
theorem Xq{f:Value→Sem Value}{g:Int→Int}
  (rule:∀(i:Int) (t:Tok) (s:Shared) (Q:Value→Shared→Prop) (E:Value→Shared→Prop),Q (.int (g i) s.toks) { s with toks:=s.toks+1 }→wpAny (model X.prog X.w) X.A (f (.int i t)) Q E s) :
  yn X f (rU fun i=>.int (g i)):=by
 intro pins s σ H x v Q I rx h
 obtain⟨i,rfl,q⟩:=h
 obtain⟨t,rfl⟩:=rx
 exact rule i t s _ _ ⟨.int (g i),H,I.tok _,⟨_,rfl⟩,q⟩
theorem S0:yn X (unaryOp .USub) (rU fun i=>.int (-i)):=Xq fun _ _ _ _ _ q=>neg_int q
end
noncomputable def ko:V→V→Bool
 |.non,.non=>true|.non,.int _=>true|.int _,.non=>true|.non,.bl _=>true|.bl _,.non=>true|.non,.str _=>true|.str _,.non=>true
 |.int _,.int _=>true|.bl _,.bl _=>true|.str _,.str _=>true|.fZ _,.fZ _=>true
 |.int _,.str _=>true|.str _,.int _=>true|.bl _,.str _=>true|.str _,.bl _=>true
 |_,_=>false
noncomputable def Kq:R2:=fun x y H Q=>ko x y=true∧Q (.bl (decide (x=y))) H
noncomputable def Kr:R2:=fun x y H Q=>ko x y=true∧Q (.bl (!decide (x=y))) H
theorem FN{i j:Int}:decide (V.int i=V.int j)=(i==j):=by
 rw[xX]
 simp
theorem GL{i j:Bool}:decide (V.bl i=V.bl j)=(i==j):=by
 rw[xX]
 simp
theorem FP{i j:Str}:decide (V.str i=V.str j)=(i==j):=by
 rw[xX]
 simp
theorem FQ{i j:Array UInt8}:decide (V.fZ i=V.fZ j)=(i.toList==j.toList):=by
 rw[xX]
 cases i
 cases j
 simp
section
variable {X:Cx}{a b c:Expr}{ta tb tc:TE}{pos:Pos}
theorem bW{pins:List (Addr×Obj)}{σ:St}{H:Hp}{s:Shared}{Q:VK}{k k':Bool}(I:Inv X pins σ H s)(q:Q (.bl k) H)(e:k=k'):EP X pins σ Q (.bool k') s:=by
 subst e
 exact⟨.bl k,H,I,rfl,q⟩
theorem Vc:bA X (compareOp .Eq) Kq:=by
 intro pins s σ H x y v u Q I rx ry h
 obtain⟨hs,q⟩:=h
 cases x with
 |non =>
  cases rx
  cases y with
  |non=>cases ry;exact PySem.EqNone.eq_none_none (bW I q (by simp))
  |bl j=>cases ry;exact PySem.EqNone.eq_none_bool (bW I q (by simp))
  |int j=>obtain⟨t',rfl⟩:=ry;exact PySem.EqNone.eq_none_int (bW I q (by simp))
  |str j=>obtain⟨t',rfl⟩:=ry;exact PySem.EqNone.eq_none_str (bW I q (by simp))
  |_=>exact absurd (show false=true from hs) aZ
 |bl i =>
  cases rx
  cases y with
  |non=>cases ry;exact PySem.EqNone.eq_bool_none (bW I q (by simp))
  |bl j=>cases ry;exact eq_bool (bW I q GL)
  |str j=>obtain⟨t',rfl⟩:=ry;exact PySem.EqMixed.eq_bool_str (bW I q (by simp))
  |_=>exact absurd (show false=true from hs) aZ
 |int i =>
  obtain⟨t,rfl⟩:=rx
  cases y with
  |non=>cases ry;exact PySem.EqNone.eq_int_none (bW I q (by simp))
  |int j=>obtain⟨t',rfl⟩:=ry;exact eq_int (bW I q FN)
  |str j=>obtain⟨t',rfl⟩:=ry;exact PySem.EqMixed.eq_int_str (bW I q (by simp))
  |_=>exact absurd (show false=true from hs) aZ
 |str i =>
  obtain⟨t,rfl⟩:=rx
  cases y with
  |non=>cases ry;exact PySem.EqNone.eq_str_none (bW I q (by simp))
  |bl j=>cases ry;exact PySem.EqMixed.eq_str_bool (bW I q (by simp))
  |int j=>obtain⟨t',rfl⟩:=ry;exact PySem.EqMixed.eq_str_int (bW I q (by simp))
  |str j=>obtain⟨t',rfl⟩:=ry;exact eq_str (bW I q FP)
  |_=>exact absurd (show false=true from hs) aZ
 |fZ i =>
  obtain⟨t,rfl⟩:=rx
  cases y with
  |fZ j=>obtain⟨t',rfl⟩:=ry;exact PySem.W.eq_bytes (bW I q FQ)
  |_=>exact absurd (show false=true from hs) aZ
 |_=>cases y<;>exact absurd (show false=true from hs) aZ
theorem Vd:bA X (compareOp .NotEq) Kr:=by
 intro pins s σ H x y v u Q I rx ry h
 obtain⟨hs,q⟩:=h
 cases x with
 |non =>
  cases rx
  cases y with
  |non=>cases ry;exact PySem.EqNone.ne_none_none (bW I q (by simp))
  |bl j=>cases ry;exact PySem.EqNone.ne_none_bool (bW I q (by simp))
  |int j=>obtain⟨t',rfl⟩:=ry;exact PySem.EqNone.ne_none_int (bW I q (by simp))
  |str j=>obtain⟨t',rfl⟩:=ry;exact PySem.EqNone.ne_none_str (bW I q (by simp))
  |_=>exact absurd (show false=true from hs) aZ
 |bl i =>
  cases rx
  cases y with
  |non=>cases ry;exact PySem.EqNone.ne_bool_none (bW I q (by simp))
  |bl j=>cases ry;exact ne_bool (bW I q (cP not GL))
  |str j=>obtain⟨t',rfl⟩:=ry;exact PySem.EqMixed.ne_bool_str (bW I q (by simp))
  |_=>exact absurd (show false=true from hs) aZ
 |int i =>
  obtain⟨t,rfl⟩:=rx
  cases y with
  |non=>cases ry;exact PySem.EqNone.ne_int_none (bW I q (by simp))
  |int j=>obtain⟨t',rfl⟩:=ry;exact ne_int (bW I q (cP not FN))
  |str j=>obtain⟨t',rfl⟩:=ry;exact PySem.EqMixed.ne_int_str (bW I q (by simp))
  |_=>exact absurd (show false=true from hs) aZ
 |str i =>
  obtain⟨t,rfl⟩:=rx
  cases y with
  |non=>cases ry;exact PySem.EqNone.ne_str_none (bW I q (by simp))
  |bl j=>cases ry;exact PySem.EqMixed.ne_str_bool (bW I q (by simp))
  |int j=>obtain⟨t',rfl⟩:=ry;exact PySem.EqMixed.ne_str_int (bW I q (by simp))
  |str j=>obtain⟨t',rfl⟩:=ry;exact ne_str (bW I q (cP not FP))
  |_=>exact absurd (show false=true from hs) aZ
 |fZ i =>
  obtain⟨t,rfl⟩:=rx
  cases y with
  |fZ j=>obtain⟨t',rfl⟩:=ry;exact PySem.W.ne_bytes (bW I q (cP not FQ))
  |_=>exact absurd (show false=true from hs) aZ
 |_=>cases y<;>exact absurd (show false=true from hs) aZ
theorem Ve:bA X (compareOp .Lt) (dU fun i j=>.bl (decide (i<j))):=Jn fun _ _ _ _ _ _ _ q=>lt_int q
theorem Vf:bA X (compareOp .Gt) (dU fun i j=>.bl (decide (j<i))):=Jn fun _ _ _ _ _ _ _ q=>gt_int q
theorem S1:bA X (compareOp .Is) (fun x y H Q=>y=.non∧Q (.bl (decide (x=.non))) H):=by
 intro pins s σ H x y v u Q I rx ry h
 obtain⟨rfl,q⟩:=h
 cases ry
 refine is_none_gen (bW I q ?_)
 cases x<;>first
  | (cases rx;rfl)
  | (obtain⟨t,rfl⟩:=rx;rfl)
theorem Qn:bA X (compareOp .IsNot) (fun x y H Q=>y=.non∧Q (.bl (!decide (x=.non))) H):=by
 intro pins s σ H x y v u Q I rx ry h
 obtain⟨rfl,q⟩:=h
 cases ry
 refine isnot_none_gen (bW I q ?_)
 cases x<;>first
  | (cases rx;rfl)
  | (obtain⟨t,rfl⟩:=rx;rfl)
theorem Qo{op:CmpOp}{r:R2}(ho:bA X (compareOp op) r)(ha:PE X a ta)(hb:PE X b tb)(hm:behindInMarks op b=false):PE X (.Compare a [op] [b] pos) (lZ r ta tb):=by
 intro pins s σ H Q I h
 exact wpAny_Compare1 (AW ha hb I h fun v u s2 x y H2 I2 rx ry q=>ho pins s2 σ H2 x y v u Q I2 rx ry q) hm
noncomputable def Ay(t:TE):TT:=fun σ H Q=>t σ H fun x H'=>∃k,x=.bl k∧Q k H'
theorem Qp{op:CmpOp}{r:R2}(ho:bA X (compareOp op) r)(ha:PE X a ta)(hb:PE X b tb)(hm:behindInMarks op b=false):PT X (.Compare a [op] [b] pos) (Ay (lZ r ta tb)):=by
 intro pins s σ H Q I h
 refine wpAny_isTrue_Compare1 (aC (ha pins s σ H _ I h) fun v s1 ⟨x,H1,I1,r1,q1⟩=>aC (hb pins s1 σ H1 _ I1 q1) fun u s2 ⟨y,H2,I2,r2,q2⟩ =>
  aC (ho pins s2 σ H2 x y v u _ I2 r1 r2 q2) fun c s3 ⟨z,H3,I3,r3,k,e,q3⟩=>?_) hm
 subst e
 cases r3
 exact iO ⟨H3,I3,q3⟩
noncomputable def GN(r r':R2)(ta tb tc:TE):TE:=fun σ H Q=>ta σ H fun x H1=>tb σ H1 fun y H2=>r x y H2 fun z H3=>∃k,z=.bl k ∧
 (if k=true then tc σ H3 fun w' H4=>r' y w' H4 Q else Q (.bl false) H3)
theorem OJ{op op':CmpOp}{r r':R2}(ho:bA X (compareOp op) r)(dE:bA X (compareOp op') r')(ha:PE X a ta)(hb:PE X b tb)(hc:PE X c tc)
  (hm:lastMarks [op,op'] [b,c]=false:=by with_unfolding_all rfl):PT X (.Compare a [op,op'] [b,c] pos) (Ay (GN r r' ta tb tc)):=by
 intro pins s σ H Q I h
 refine isTrue_chain (aC (ha pins s σ H _ I h) fun v s1 ⟨x,H1,I1,r1,q1⟩=>test_link (aC (hb pins s1 σ H1 _ I1 q1) fun u s2 ⟨y,H2,I2,r2,q2⟩ =>
  aC (ho pins s2 σ H2 x y v u _ I2 r1 r2 q2) fun d s3 ⟨z,H3,I3,r3,k,e,q3⟩=>?_)) hm
 subst e
 cases r3
 refine iO ?_
 cases k with
 |false =>
  obtain⟨k',e',q'⟩:=q3
  cases e'
  exact ite_ff ⟨H3,I3,q'⟩
 |true =>
  refine ite_tt (test_last (aC (hc pins s3 σ H3 _ I3 q3) fun w' s4 ⟨z',H4,I4,r4,q4⟩=>aC (dE pins s4 σ H4 y z' u w' _ I4 r2 r4 q4) fun d' s5 ⟨z2,H5,I5,r5,k2,e2,q5⟩=>?_))
  subst e2
  cases r5
  exact iO ⟨H5,I5,q5⟩
def xq(K:PySem.W.Frag)(x:V)(H:Hp)(k:Bool):Prop :=
 match x with
 |.non=>k=false
 |.bl b=>k=b
 |.int i=>k=(i != 0)
 |.str y=>y.length≤sizeLine∧k=((y.length:Int) != 0)
 |.fZ y=>y.size≤sizeLine∧k=((y.size:Int) != 0)
 |.ref p=>(∃xs,bw K H p xs∧k=!xs.isEmpty)∨(∃xs,bf K H p xs∧k=!xs.isEmpty)∨∃kvs,H p=some (.dK kvs)∧k=!kvs.isEmpty
 |_=>False
theorem MS{κ:Type}{kvs:List (κ×V)}{vs:List (κ×Value)}(r:KV kvs vs):(!vs.isEmpty)=!kvs.isEmpty:=by
 cases r<;>rfl
theorem Ec{xs:List V}{its:List Value}(r:Vals xs its):(!its.toArray.isEmpty)=!xs.isEmpty:=by
 cases r<;>simp
theorem p8:(sizeLine:Nat)<2^63:=by rw[xY];decide
theorem S2:Wq X (fun x H Q=>∃k,xq X.K x H k∧Q k H):=by
 intro pins s σ H x v Q I rx h
 obtain⟨k,e,q⟩:=h
 have hl:=p8
 have hs:sizeLine=16777216:=xY
 cases x with
 |non =>
  cases rx
  have e':k=false:=e
  subst e'
  exact truthy_none ⟨H,I,q⟩
 |bl b =>
  cases rx
  have e':k=b:=e
  subst e'
  exact iO ⟨H,I,q⟩
 |int i =>
  obtain⟨t,rfl⟩:=rx
  have e':k=(i != 0):=e
  subst e'
  exact PySem.P.truthy_int ⟨H,I,q⟩
 |str y =>
  obtain⟨t,rfl⟩:=rx
  obtain⟨hy,e'⟩:y.length≤sizeLine∧k=((y.length:Int) != 0):=e
  subst e'
  exact PySem.P.truthy_str (by omega) ⟨H,I.tok _,q⟩
 |fZ y =>
  obtain⟨t,rfl⟩:=rx
  obtain⟨hy,e'⟩:y.size≤sizeLine∧k=((y.size:Int) != 0):=e
  subst e'
  exact PySem.W.truthy_bytes (by omega) ⟨H,I.tok _,q⟩
 |ref p =>
  cases rx
  have e':(∃xs,bw X.K H p xs∧k=!xs.isEmpty)∨(∃xs,bf X.K H p xs∧k=!xs.isEmpty)∨∃kvs,H p=some (.dK kvs)∧k=!kvs.isEmpty:=e
  rcases e' with⟨xs,hx,e'⟩|⟨xs,hx,e'⟩|⟨kvs,hx,e'⟩
  ·subst e'
   obtain⟨its,r,pl,hz⟩:=I.list hx
   have hlen:=r.length
   exact wpAny_truthy_list pl.isList (by simp only[List.size_toArray];omega) ⟨H,I.tok _,by rw[Ec r];exact q⟩
  ·subst e'
   obtain⟨its,r,pl,hz⟩:=I.tuple hx
   have hlen:=r.length
   exact truthy_tuple pl (by simp only[List.size_toArray];omega) ⟨H,I.tok _,by rw[Ec r];exact q⟩
  ·subst e'
   obtain⟨hz,hS,vs,r,m⟩:kvs.length≤sizeLine∧(p==sysModules)=false∧∃vs,KV kvs vs∧s.heap.DictOf (cu X.prog X.w) p vs:=I.az p _ hx
   have hlen:kvs.length=vs.length:=cJ r
   exact wpAny_truthy_dict hS m (by omega) ⟨H,I.tok _,by rw[MS r];exact q⟩
 |_=>exact(show False from e).elim
theorem OL(ha:PE X a ta)(he:∀whole,isTrue a X.env whole=(do let v ←whole;standAt a.pos;holding [v] (truthy v))) :
  PT X a (fun σ H Q=>ta σ H fun x H'=>∃k,xq X.K x H' k∧Q k H'):=by
 intro pins s σ H Q I h
 exact isTrue_plain (aC (ha pins s σ H _ I h) fun v s1 ⟨x,H1,I1,r1,q1⟩=>S2 pins s1 σ H1 x v Q I1 r1 q1) (he _)
theorem MT:bA X (binaryOp .Add) (fun x y H Q=>∃i j,x=.str i∧y=.str j∧i.length+j.length≤sizeLine∧Q (.str (i++j)) H):=by
 intro pins s σ H x y v u Q I rx ry h
 obtain⟨i,j,rfl,rfl,hz,q⟩:=h
 obtain⟨t,rfl⟩:=rx
 obtain⟨t',rfl⟩:=ry
 exact add_str (fun t' tk=>⟨.str (i++j),H,I.tok _,⟨_,rfl⟩,q⟩) hz
theorem vals1{x:V}{us:List Value}(r:Vals [x] us):∃u,us=[u]∧RelV x u:=by
 cases r with
 |cons r1 r2=>cases r2;exact⟨_,rfl,r1⟩
theorem vals2{x y:V}{us:List Value}(r:Vals [x,y] us):∃u w',us=[u,w']∧RelV x u∧RelV y w':=by
 cases r with
 |cons r1 r2 =>
  cases r2 with
  |cons r3 r4=>cases r4;exact⟨_,_,rfl,r1,r3⟩
theorem OO:gp X (.builtin "abs") (fun xs H Q=>∃i,xs=[.int i]∧Q (.int (if i<0 then -i else i)) H):=by
 intro pins s σ H xs us Q I r h
 obtain⟨i,rfl,q⟩:=h
 obtain⟨u,rfl,t,rfl⟩:=vals1 r
 exact call_abs_int fun u tk=>⟨.int (if i<0 then -i else i),H,I.tok _,⟨_,rfl⟩,q⟩
theorem Nv:gp X (.type "int") (fun xs H Q=>(∃i,xs=[.int i]∧Q (.int i) H)∨∃k,xs=[.bl k]∧Q (.int (if k then 1 else 0)) H):=by
 intro pins s σ H xs us Q I r h
 rcases h with⟨i,rfl,q⟩|⟨k,rfl,q⟩
 ·obtain⟨u,rfl,t,rfl⟩:=vals1 r
  exact call_int_int ⟨.int i,H,I,⟨_,rfl⟩,q⟩
 ·obtain⟨u,rfl,r1⟩:=vals1 r
  cases r1
  exact call_int_bool ⟨.int (if k then 1 else 0),H,I.tok _,⟨_,rfl⟩,q⟩
def AX(K:PySem.W.Frag)(x:V)(H:Hp)(n:Nat):Prop :=
 match x with
 |.str y=>y.length≤sizeLine∧n=y.length
 |.fZ y=>y.size≤sizeLine∧n=y.size
 |.ref p=>(∃xs,bw K H p xs∧n=xs.length)∨∃xs,bf K H p xs∧n=xs.length
 |_=>False
theorem OQ:gp X (.builtin "len") (fun xs H Q=>∃x n,xs=[x]∧AX X.K x H n∧Q (.int n) H):=by
 intro pins s σ H xs us Q I r h
 obtain⟨x,n,rfl,e,q⟩:=h
 obtain⟨u,rfl,rx⟩:=vals1 r
 have hl:=p8
 have hs:sizeLine=16777216:=xY
 cases x with
 |str y =>
  obtain⟨t,rfl⟩:=rx
  obtain⟨hy,e'⟩:y.length≤sizeLine∧n=y.length:=e
  subst e'
  exact len_str (by omega) ⟨.int _,H,I.tok _,⟨_,rfl⟩,q⟩
 |fZ y =>
  obtain⟨t,rfl⟩:=rx
  obtain⟨hy,e'⟩:y.size≤sizeLine∧n=y.size:=e
  subst e'
  exact PySem.W.len_bytes (by omega) ⟨.int _,H,I.tok _,⟨_,rfl⟩,q⟩
 |ref p =>
  cases rx
  have e':(∃xs,bw X.K H p xs∧n=xs.length)∨∃xs,bf X.K H p xs∧n=xs.length:=e
  rcases e' with⟨xs,hx,e'⟩|⟨xs,hx,e'⟩
  ·subst e'
   obtain⟨its,r',pl,hz⟩:=I.list hx
   have hlen:=r'.length
   exact Calls.call_len_list pl.isList (by simp only[List.size_toArray];omega) ⟨.int xs.length,H,I.tok _,⟨_,by simp only[List.size_toArray];rw[hlen]⟩,q⟩
  ·subst e'
   obtain⟨its,r',pl,hz⟩:=I.tuple hx
   have hlen:=r'.length
   exact len_tuple pl (by simp only[List.size_toArray];omega) ⟨.int xs.length,H,I.tok _,⟨_,by simp only[List.size_toArray];rw[hlen]⟩,q⟩
 |_=>exact(show False from e).elim
end
structure Za (h:Heap)(x dx C:Addr)(mA:Str→Option Value):Prop where
 obj:h.get? x=some (PySem.W.instObj C dx)
 ns:h.Ns1 dx mA
 ne:dx≠x
section
variable {prog:Program}{w:World}{A:Around}{E:Value→Shared→Prop}{s:Shared}{K:PySem.W.Frag}{x dx C f:Addr}{mA:Str→Option Value}{name:Str}{v:Value}
end
theorem g6.some_of{v:V}{o:Option Value}(r:g6 (some v) o):∃u,o=some u∧RelV v u:=by
 cases o with
 |none=>exact(show False from r).elim
 |some u=>exact⟨u,rfl,r⟩
section
variable {P:Program}{w:World}{H H':Hp}{h h':Heap}{a C dx:Addr}{fs Xo:List (Str×V)}
end
structure Ca (K:PySem.W.Frag)(C:Addr):Prop where
 pg:PySem.W.plainGet K C Str.empty=true
 hd:PySem.W.hasDictIn K C=true
 po:PySem.W.plainOver K C=true
 sa:PySem.W.findIn K (.ref C) "__setattr__" = some (some (.builtin "object.__setattr__"))
theorem Ca.get{K:PySem.W.Frag}{C:Addr}(c:Ca K C)(f:Str):PySem.W.plainGet K C f=true:=c.pg
structure Zh (K:PySem.W.Frag)(C:Addr)(f:Str)(v:V)(u:Value):Prop where
 at_:PySem.W.findIn K (.ref C) f=some (some u)
 rel:RelV v u
 get:PySem.W.specialIn K u "__get__" = some none
 cp:PySem.W.copiedNames.contains f=false
structure Meth (K:PySem.W.Frag)(C:Addr)(m:Str)(f:Addr):Prop where
 at_:PySem.W.findIn K (.ref C) m=some (some (.ref f))
 fn:PySem.W.isFn K (.ref f)=true
 kp:PySem.W.keepIn K (.ref f)=true
section
variable {X:Cx}{pins:List (Addr×Obj)}{σ:St}{H:Hp}{s:Shared}{a C dx:Addr}{fs:List (Str×V)}{f:Str}{v:V}{A:Around}{E:Value→Shared→Prop}
end
section
variable {X:Cx}{o e value:Expr}{f:Str}{pos pos' Wr:Pos}{ta tv:TE}
def AY:V→V→Hp→VK→Prop:=fun x y H Q=>∃i j,x=.int i∧y=.int j∧Q (.int (i+j)) H
end
section
variable {X:Cx}{pins:List (Addr×Obj)}{σ:St}{H:Hp}{s:Shared}{A:Around}{E:Value→Shared→Prop}{Q:Value→Shared→Prop}{c:Value}{b:Bool}
inductive iF (K:PySem.W.Frag)(H:Hp):V→Value→Prop where
 |non:iF K H .non (.type "NoneType")
 |bl (x:Bool):iF K H (.bl x) (.type "bool")
 |int (i:Int):iF K H (.int i) (.type "int")
 |str (x:Str):iF K H (.str x) (.type "str")
 |uw (x:UInt64):iF K H (.uw x) (.type "float")
 |lst {a:Addr}{xs:List V} (e:H a=some (.lst xs)):iF K H (.ref a) (.type "list")
 |aK {a:Addr}{o:Obj}{xs:List V} (e:H a=some (.aK o (.lst xs))):iF K H (.ref a) (.type "list")
 |tup {a:Addr}{xs:List V} (e:H a=some (.tup xs)):iF K H (.ref a) (.type "tuple")
 |dK {a:Addr}{kvs:List (Key×V)} (e:H a=some (.dK kvs)):iF K H (.ref a) (.type "dict")
 |dT {a:Addr}{kvs:List (List Key×V)} (e:H a=some (.dT kvs)):iF K H (.ref a) (.type "dict")
 |ins {a C dx:Addr}{fs:List (Str×V)} (e:H a=some (.ins C dx fs)) (cl:Ca K C) (ha:PySem.W.findIn K (.ref C) "__class__" = some (some (.builtin "object.__class__")))
  (hn:PySem.W.specialIn K (.builtin "object.__class__") "__get__" = some (some (.builtin "getset_descriptor.__get__"))) (Zi:PySem.W.takesIn K (.builtin "object.__class__")=some true)
  (hm:PySem.W.mroIn K C (.type "object")=some true):iF K H (.ref a) (.ref C)
end
structure dw (k:Nat)(A:Around):Prop where
 hd:A.handled=none
 dp:A.depth+3*k+5<recursionLimit
 un:A.units+16*k+200<cLine
theorem dw.mono{j k:Nat}{A:Around}(r:dw k A)(h:j≤k):dw j A:=⟨r.hd,by have:=r.dp;omega,by have:=r.un;omega⟩
theorem dw.deeper{k:Nat}{A:Around}(r:dw (k+1) A)(env:Env):dw k (A.deeper env) :=
 ⟨r.hd,by have:=r.dp;show A.depth+1+3*k+5<_;omega,by have:=r.un;show A.units+3+16*k+200<_;omega⟩
theorem dw.depth{k:Nat}{A:Around}(r:dw k A):A.depth<recursionLimit:=by have:=r.dp;omega
theorem dw.units{k:Nat}{A:Around}(r:dw k A):A.units+64<cLine:=by have:=r.un;omega
noncomputable def kr:TA:=fun _ H Q=>Q [] H
noncomputable def lG(ta:TE)(tr:TA):TA:=fun σ H Q=>ta σ H fun x H1=>tr σ H1 fun xs H2=>Q (x::xs) H2
section
variable {X:Cx}{e:Expr}{es:List Expr}{te:TE}{t:TA}{pos:Pos}
theorem sH:PA X [] kr:=fun _ _ _ _ H Q I h=>Calls.spliced_nil ⟨[],H,I,.nil,h⟩
theorem vM(ha:PE X e te)(hr:PA X es t)(hs:starEach (e::es) X.env=(false,eval e X.env)::starEach es X.env:=by rfl):PA X (e::es) (lG te t):=by
 intro pos pins s σ H Q I h
 rw[hs]
 show wpAny _ _ (spliced ((false,eval e X.env)::backTo pos (starEach es X.env))) _ _ s
 refine xZ (aC (ha pins s σ H _ I h) fun u s1 ⟨x,H1,I1,r1,q1⟩=>?_)
 exact aC (hr pos pins s1 σ H1 _ I1 q1) fun us s2 ⟨xs,H2,I2,r2,q2⟩=>⟨x::xs,H2,I2,.cons r1 r2,q2⟩
noncomputable def AZ(t:TA):TE:=fun σ H Q=>t σ H fun xs H1=>xs.length≤sizeLine∧∀p,H1 p=none→Q (.ref p) (upd H1 p (.tup xs))
noncomputable def xt(t:TA):TE:=fun σ H Q=>t σ H fun xs H1=>xs.length≤sizeLine∧∀p,H1 p=none→Q (.ref p) (upd H1 p (.lst xs))
theorem GO{x1}(h:PA X es t):PE X (.Tuple es x1 pos) (AZ t):=by
 intro pins s σ H Q I hq
 refine wpAny_Tuple_spliced (aC (h pos pins s σ H _ I hq) fun us s1 ⟨xs,H1,I1,r,z,q⟩=>⟨by rw[←r.length];exact z,?_⟩)
 have hf:H1 s1.heap.objs.size=none:=I1.az.fresh (aR _)
 refine⟨.ref s1.heap.objs.size,upd H1 s1.heap.objs.size (.tup xs),I1.laid (t':=s1.toks) (fun b u e=>cy _ e) (aR _) ?_,rfl,q _ hf⟩
 exact⟨z,us,r,⟨_,eU _ rfl,rfl,rfl,_,rfl⟩⟩
theorem Aa(h:PA X es t):PE X (.List es pos) (xt t):=by
 intro pins s σ H Q I hq
 refine wpAny_List_spliced (aC (h pos pins s σ H _ I hq) fun us s1 ⟨xs,H1,I1,r,z,q⟩=>⟨by rw[←r.length];exact z,?_⟩)
 have hf:H1 s1.heap.objs.size=none:=I1.az.fresh (aR _)
 refine⟨.ref s1.heap.objs.size,upd H1 s1.heap.objs.size (.lst xs),I1.laid (t':=s1.toks) (fun b u e=>cy _ e) (aR _) ?_,rfl,q _ hf⟩
 exact⟨z,us,0,r,eU _ rfl⟩
end
noncomputable abbrev Sp:=List V→Hp→VK→XK→Prop
noncomputable abbrev iR:=List Env→Hp→Shared→XK→Value→Shared→Prop
structure xu (P:Program)(w:World)(K:PySem.W.Frag)(mg:Str→Option Value)(base:Heap)(A:Around)(outer:List Env)(s:Shared)(H:Hp):Prop where
 frames:A.frames=some outer
 mod:Mod K mg base
 bs:∀b o,base.get? b=some o→s.heap.get? b=some o∧H b=none
 kO:base.objs.size≤s.heap.objs.size
 iC:s.heap.FunFrames base outer
 q8:∀b∈hU outer,H b=none
 az:cj P w H s.heap
 bare:AllBare s.gens
def CE(outer:List Env)(P:Program)(w:World)(H:Hp)(s:Shared)(Q:VK)(u:Value)(s':Shared):Prop :=
 ∃v H',s'.os=s.os∧AllBare s'.gens∧Un (hU outer) [] H H' s.heap s'.heap∧cj P w H' s'.heap∧RelV v u∧Q v H'
def CR(CX:iR)(outer:List Env)(P:Program)(w:World)(H:Hp)(s:Shared)(Q:VK)(E:XK)(r:Result)(s':Shared):Prop :=
 match r with
 |.ok (.ret u)=>CE outer P w H s Q u s'
 |.ok _=>False
 |.error e=>CX outer H s E e s'
structure ku (P:Program)(w:World)(K:PySem.W.Frag)(mg:Str→Option Value)(base:Heap)(CX:iR)(k:Nat)(f:Addr)(fd:FuncData)(ps:List Str)(sp:Sp):Prop where
 len:∀vs H Q E,sp vs H Q E→vs.length=ps.length
 run:∀(A:Around) (outer:List Env) (s:Shared) (H:Hp) (args:Args) (us:List Value) (vs:List V) (Q:VK) (E:XK),dw k A→xu P w K mg base A outer s H→BindsTo s fd args (ps.zip us)→Vals vs us→sp vs H Q E →
  codeAny (model P w) A (.call (.ref f) args) (CR CX outer P w H s Q E) s
section
variable {X:Cx}{pins:List (Addr×Obj)}{σ:St}{H:Hp}{s s':Shared}
theorem Inv.Ws(I:Inv X pins σ H s):xu X.prog X.w X.K X.mg X.base X.A X.stack s H :=
 ⟨I.ok.frames,I.ok.mod,I.bs,bQ I.ok.kO I.sz,I.stack,I.FJ,I.az,I.bare⟩
theorem Inv.after{Q:VK}{u:Value}(I:Inv X pins σ H s)(h:CE X.stack X.prog X.w H s Q u s'):EP X pins σ Q u s':=by
 obtain⟨v,H',os,bare,un,az,r,q⟩:=h
 obtain⟨hh,g,d,t,ph⟩:=s'
 obtain rfl:ph=s.os:=os
 exact⟨v,H',I.call (h':=hh) (g':=g) (d':=d) (t':=t) (ch:=[]) un az bare (fun b z=>absurd z (by simp)),r,q⟩
end
noncomputable def j7(sp:Sp)(l0:List V)(E:XK)(t:TA):TE:=fun σ H Q=>t σ H fun vs H1=>sp (vs++l0) H1 Q E
def Binds(K:PySem.W.Frag)(fd:FuncData)(ps:List Str)(ds:List Value):Prop :=
 ∀(s:Shared) (us:List Value),K.In s.heap→(us++ds).length=ps.length→BindsTo s fd ⟨us,[]⟩ (ps.zip (us++ds))
theorem Binds.all{K:PySem.W.Frag}{fd:FuncData}{ps:List Str}(h:∀us:List Value,us.length=ps.length→bindArgs fd ⟨us,[]⟩=pure (ps.zip us)):Binds K fd ps []:=fun s us _ hl=>by
 rw[oV]at hl ⊢
 exact .of_eq (h us hl)
def Passes(CX:iR)(X:Cx)(E:XK):Prop:=∀(pins:List (Addr×Obj)) (σ:St) (H:Hp) (s:Shared) (e:Value) (s':Shared),Inv X pins σ H s→CX X.stack H s E e s'→X.xe e s'
section
variable {X:Cx}{CX:iR}{k:Nat}{f C:Addr}{fd:FuncData}{ps:List Str}{sp:Sp}{l0:List V}{ds:List Value}{E:XK}{x m:Str}{p pos apos:Pos}{e o:Expr}{es:List Expr}{ta:TE}{t:TA}
theorem S3{pins:List (Addr×Obj)}{σ:St}{H:Hp}{s:Shared}{Q:VK}{us:List Value}{vs:List V}(F:ku X.prog X.w X.K X.mg X.base CX k f fd ps sp)(hr:dw k X.A)(hb:Binds X.K fd ps ds)(hd:Vals l0 ds)(hx:Passes CX X E)
  (I:Inv X pins σ H s) (r:Vals vs us) (h:sp (vs++l0) H Q E):wpAny (model X.prog X.w) X.A (call (.ref f) us) (EP X pins σ Q) X.xe s:=by
 have r2:Vals (vs++l0) (us++ds):=r.append hd
 have hl:(us++ds).length=ps.length:=by rw[←r2.length];exact F.len _ _ _ _ h
 refine wpAny_call (codeAny_mono (F.run X.A X.stack s H ⟨us,[]⟩ (us++ds) (vs++l0) Q E hr I.Ws (hb s us I.gy hl) r2 h) fun r s' hq=>?_)
 cases r with
 |error e=>exact hx pins σ H s e s' I hq
 |ok fl =>
  cases fl with
  |ret u=>exact I.after hq
  |next=>exact False.elim hq
  |brk=>exact False.elim hq
  |cont=>exact False.elim hq
theorem zL(F:ku X.prog X.w X.K X.mg X.base CX k f fd ps sp)(hr:dw k X.A)(hg:Gl X x)(hm:X.mg x=some (.ref f))(hk:PySem.W.keepIn X.K (.ref f)=true)(hb:Binds X.K fd ps ds)(hd:Vals l0 ds)(hx:Passes CX X E)
  (ha:PA X (e::es) t) (uG:(x==("__debug__" : Str))=false:=by decide) (he:starEach (e::es) X.env=(false,eval e X.env)::starEach es X.env:=by rfl) (rh:(backTo pos (starEach es X.env)).any (·.1)=false:=by rfl) :
  PE X (.Call (.Name x p) (e::es) [] pos) (j7 sp l0 E t):=by
 intro pins s σ H Q I h
 refine BG (Qf I hg hm ?_ uG)
 refine PySem.W.callWith_K (h₀:=X.base) I.ok.mod.B2 hk (aC (ha pos pins s σ H _ I h) fun us s1 ⟨vs,H1,I1,r,q⟩=>⟨I1.gy,?_⟩) he rh
 exact S3 F hr hb hd hx I1 r q
structure Mk (K:PySem.W.Frag)(C f:Addr):Prop where
 makes:PySem.W.makesIn K C=true
 init:PySem.W.findIn K (.ref C) "__init__" = some (some (.ref f))
 fn:PySem.W.isFn K (.ref f)=true
 kp:PySem.W.keepIn K (.ref C)=true
end
section
variable {X:Cx}{CX:iR}{k:Nat}{f C:Addr}{fd:FuncData}{ps ks:List Str}{sp:Sp}{E:XK}{x m:Str}{p pos apos Zb:Pos}{e o:Expr}{es:List Expr}{kws:List Keyword}{te ta:TE}{t tk:TA}{nm:Option Str}
structure Y8 (K:PySem.W.Frag)(fd:FuncData)(ps ks:List Str)(g:List Value→List Value→List Value)(gV:List V→List V→List V):Prop where
 to:∀(s:Shared) (us ws:List Value),K.In s.heap→(g us ws).length=ps.length→BindsTo s fd ⟨us,ks.zip ws⟩ (ps.zip (g us ws))
 rel:∀{vs:List V}{us:List Value}{zs:List V}{ws:List Value},Vals vs us→Vals zs ws→Vals (gV vs zs) (g us ws)
variable {g:List Value→List Value→List Value}{gV:List V→List V→List V}
end
structure sr (N P:List Str)(sc:Scope):Prop where
 kind:sc.kind=.function
 co:sc.isCoroutine=false
 gen:sc.isGenerator=false
 nd:N.Nodup
 pre:N.take P.length=P
 par:∀x∈P,sc.names.lookup x=some .local∨sc.names.lookup x=some .cell
 S4:∀y∈sc.names,y.2≠.free
theorem Ex{kindOf:Str→Option NameKind}{x:Str}:∀{binds:List (Str×Value)}{m:Str→Option Value},(∀v,(x,v)∉binds)→bindL kindOf binds m x=m x
  |[],_,_=>rfl
  | (n,v)::r,m,h=>by
    unfold bindL
    rw[Ex fun w hw=>h w (cT _ hw)]
    split
    · have:x≠n:=by rintro rfl;exact h v cL
      simp[this]
    · rfl
theorem Ey{kindOf:Str→Option NameKind}{x:Str}:∀{binds:List (Str×Value)}{m:Str→Option Value},(∀v,(x,v)∉binds)→bindC kindOf binds m x=m x
  |[],_,_=>rfl
  | (n,v)::r,m,h=>by
    unfold bindC
    rw[Ey fun w hw=>h w (cT _ hw)]
    split
    · rfl
    · have:x≠n:=by rintro rfl;exact h v cL
      simp[this]
theorem Ez{kindOf:Str→Option NameKind}{x:Str}{v:Value}:∀{P:List Str}{vs:List Value}{i:Nat}{m:Str→Option Value},P.Nodup→P[i]?=some x→vs[i]?=some v→kindOf x=some .local →
  bindL kindOf (P.zip vs) m x=some v
 |[],_,_,_,_,h,_,_=>by simp at h
 |_::_,[],_,_,_,_,h,_=>by simp at h
 |p::P,w::vs,0,m,nd,h1,h2,hk=>by
  simp at h1 h2;subst h1;subst h2
  show bindL kindOf ((p,w)::P.zip vs) m p=_
  unfold bindL
  rw[Ex fun v hv=>(iQ.mp nd).1 (BH hv).1,if_pos hk]
  simp
 |p::P,w::vs,i+1,m,nd,h1,h2,hk=>by
  show bindL kindOf ((p,w)::P.zip vs) m x=_
  unfold bindL
  exact Ez (i:=i) (iQ.mp nd).2 (by simpa using h1) (by simpa using h2) hk
theorem EA{kindOf:Str→Option NameKind}{x:Str}{v:Value}:∀{P:List Str}{vs:List Value}{i:Nat}{m:Str→Option Value},P.Nodup→P[i]?=some x→vs[i]?=some v→kindOf x≠some .local →
  bindC kindOf (P.zip vs) m x=some v
 |[],_,_,_,_,h,_,_=>by simp at h
 |_::_,[],_,_,_,_,h,_=>by simp at h
 |p::P,w::vs,0,m,nd,h1,h2,hk=>by
  simp at h1 h2;subst h1;subst h2
  show bindC kindOf ((p,w)::P.zip vs) m p=_
  unfold bindC
  rw[Ey fun v hv=>(iQ.mp nd).1 (BH hv).1,if_neg hk]
  simp
 |p::P,w::vs,i+1,m,nd,h1,h2,hk=>by
  show bindC kindOf ((p,w)::P.zip vs) m x=_
  unfold bindC
  exact EA (i:=i) (iQ.mp nd).2 (by simpa using h1) (by simpa using h2) hk
noncomputable def start(N:List Str)(vs:List V):St:=vs.map some++List.replicate (N.length-vs.length) none
noncomputable def lO(CX:iR)(P:Program)(w:World)(K:PySem.W.Frag)(mg:Str→Option Value)(base:Heap)(N:List Str)(qual:Str)(scope:Scope)(f:Addr)(cd:Value)(A:Around)(outer:List Env)(s:Shared)(H:Hp)(E:XK):Cx where
 prog:=P
 w:=w
 K:=K
 mg:=mg
 base:=base
 A:=A.deeper (envOfC qual scope s.heap.objs.size f cd)
 N:=N
 s₀:=s
 H₀:=H
 env:=envOfC qual scope s.heap.objs.size f cd
 outer:=outer
 stack:=envOfC qual scope s.heap.objs.size f cd::outer
 ex:=[]
 calm:=true
 fn:=fun _=>true
 pn:=[]
 xe:=fun e s'=>wpAny (model P w) (A.deeper (envOfC qual scope s.heap.objs.size f cd)) (leaving (envOfC qual scope s.heap.objs.size f cd) e) (fun _ Cb=>CX outer H s E e Cb) (fun e' Cb=>CX outer H s E e' Cb) s'
theorem E5{sc:Scope}{n:Nat}{x:Str}(h:sc.names.lookup x=some .cell):∃c,(cellsFrom n sc.names []).lookup x=some c:=by
 have q:=PySem.W.cellsFrom_some sc.names n [] (.inl h)
 exact Option.isSome_iff_exists.mp q
theorem Nw{CX:iR}{P:Program}{w:World}{K:PySem.W.Frag}{mg:Str→Option Value}{base:Heap}{N ps:List Str}{qual:Str}{scope:Scope}{f:Addr}{cd:Value}{A:Around}{outer:List Env}{s s1:Shared}{H:Hp}{E:XK}{us:List Value}{vs:List V}
  (S:sr N ps scope) (hd:A.handled=none) (e0:xu P w K mg base A outer s H) (hl:vs.length=ps.length) (r:Vals vs us)
  (x:InCallC s s.heap.objs.size (bindL (envOfC qual scope s.heap.objs.size f cd).kindOf (ps.zip us) fun _=>none) (cellsFrom (s.heap.objs.size+1) scope.names []) (bindC (envOfC qual scope s.heap.objs.size f cd).kindOf (ps.zip us) fun _=>none) s1) :
  Inv (lO CX P w K mg base N qual scope f cd A outer s H E) [] (start N vs) H s1:=by
 have rh:ps.length≤N.length:=by have:=cP List.length S.pre;rw[kH]at this;omega
 obtain⟨h1,tk,rfl,hk⟩:=x.done
 have uH:∀b:Addr,b∉(lO CX P w K mg base N qual scope f cd A outer s H E).ex:=fun b z=>absurd (show b∈([]:List Addr)from z) (by simp)
 refine⟨⟨e0.mod,S.kind,rfl,rfl,aR _,fun y z c h1 h2=>?_,fun y hy=>?_,fun y c _ h=>?_,fun _=>hd,Around.frames_deeper e0.frames,.inr ⟨rfl,rfl⟩,fun b z=>absurd z (uH b),e0.bs,e0.kO,fun b _ _=>uH b,fun b z=>absurd z (uH b),e0.iC,e0.q8⟩,
  rfl,e0.bare,Un.kept hk,⟨_,x.toInCall.ns,fun i y v h1 h2 h3=>?_⟩,fun y c h=>⟨_,x.cell y c h⟩,e0.az.fresh (aR _),fun y c h=>?_,fun p hp=>absurd (show p∈([]:List (Addr×Obj))from hp) (by simp),e0.az.kept hk,?_⟩
 ·exact name_of_addr x.apart (lT h1) (lT h2)
 ·have hy:scope.names.lookup y=some .cell∨scope.names.lookup y=some .free:=hy
  rcases hy with hy|hy
  ·exact E5 hy
  ·exact absurd rfl (S.S4 _ (lT hy))
 ·exact Nat.le_of_lt (x.above y c (lT h))
 ·have hi:i<vs.length:=by
   unfold start at h2
   by_cases hi:i<vs.length
   ·exact hi
   ·rw[List.getElem?_append_right (by simpa using hi)]at h2
    rw[BI]at h2
    split at h2<;>cases h2
  have ha:vs[i]?=some v:=by
   unfold start at h2
   rw[lU (by simpa using hi),cE]at h2
   cases e:vs[i]? with
   |none=>rw[e]at h2;cases h2
   |some a=>rw[e]at h2;cases h2;rfl
  obtain⟨u,hu,rv⟩:=r.get ha
  have hp:ps[i]?=some y:=by
   rw[←S.pre,List.getElem?_take_of_lt (by omega)];exact h1
  have Ks:ps.Nodup:=by rw[←S.pre];exact S.nd.sublist (List.take_sublist _ _)
  refine⟨u,rv,?_⟩
  rcases S.par y (fB hp)with k|k
  ·exact .inl ⟨k,Ez Ks hp hu k⟩
  ·obtain⟨c,e⟩:=E5 (n:=s.heap.objs.size+1) k
   refine .inr ⟨.inl k,c,e,?_⟩
   have q:=x.cell y c e
   rw[EA Ks hp hu (by show scope.names.lookup y≠_;rw[k];decide)]at q
   exact q
 ·exact e0.az.fresh (Nat.le_of_lt (x.above y c (lT h)))
 ·unfold start
  show _=N.length
  rw[b9,aU,List.length_replicate]
  omega
theorem HX{CX:iR}{P:Program}{w:World}{K:PySem.W.Frag}{mg:Str→Option Value}{base:Heap}{k:Nat}{f:Addr}{name qual:Str}{params:Arguments}{body:List Stmt}{scope:Scope}{dV kV doc pm bq ct oc:Value}{an od:Option Addr}
  {iT:Array (Option Value)}{N ps:List Str}{sp:Sp} (lk:K.lookup f=some ⟨oc,od,.func (PySem.W.fnOf name qual params body scope dV kV doc pm an bq ct),iT⟩) (dM:PySem.W.codeIn K bq qual=true) (S:sr N ps scope)
  (len:∀vs H Q E,sp vs H Q E→vs.length=ps.length)
  (sZ:∀(A:Around) (outer:List Env) (s:Shared) (H:Hp) (vs:List V) (Q:VK) (E:XK),dw k (A.deeper (envOfC qual scope s.heap.objs.size f bq))→sp vs H Q E →
   ∃t,f6 (lO CX P w K mg base N qual scope f bq A outer s H E) body t∧t { nx:=fun _ H'=>Q .non H',rt:=Q } (start N vs) H) :
  ku P w K mg base CX (k+1) f (PySem.W.fnOf name qual params body scope dV kV doc pm an bq ct) ps sp:=by
 refine⟨len,fun A outer s H args us vs Q E hr e0 hb r jJ=>?_⟩
 have hl:=len _ _ _ _ jJ
 have KX:K.In s.heap:=e0.mod.B2.keeps fun b o e=>(e0.bs b o e).1
 have lim:s.heap.NoLimit:=e0.mod.nolimit.keeps fun b o e=>(e0.bs b o e).1
 have Vg:∀y∈ps.zip us,scope.names.lookup y.1=some .local∨(scope.names.lookup y.1=some .cell∧((cellsFrom (s.heap.objs.size+1) scope.names []).lookup y.1).isSome=true):=fun⟨n,v⟩ hy=>by
  rcases S.par n (BH hy).1 with q|q
  ·exact .inl q
  ·exact .inr ⟨q,PySem.W.cellsFrom_some _ _ _ (.inl q)⟩
 refine codeAny_call_function hr.depth (KX _ _ lk) rfl S.co S.gen rfl (PySem.W.codeRec_of KX dM) (hb _ _ _ _ ?_)
 refine wpAny_newFunctionEnv_cells S.kind Vg fun env he s1 x=>?_
 subst he
 refine⟨lim.keeps x.toInCall.keep,codeAny_func ?_⟩
 obtain⟨t,ht,hq⟩:=sZ A outer s H vs Q E (hr.deeper _) jJ
 have I:Inv (lO CX P w K mg base N qual scope f bq A outer s H E) [] (start N vs) H s1:=Nw S hr.hd e0 hl r x
 refine fA (ht [] s1 (start N vs) H _ I hq) (fun fl s' hs=>?_) fun e s' hs=>hs
 have fin:∀{σ':St}{H':Hp}{v:V}{u:Value},Inv (lO CX P w K mg base N qual scope f bq A outer s H E) [] σ' H' s'→RelV v u→Q v H'→CE outer P w H s Q u s' :=
  fun {σ' H' v u} J rv q=>⟨v,H',J.os,J.bare,J.base,J.az,rv,q⟩
 cases fl with
 |ret u =>
  obtain⟨v,σ',H',J,rv,q⟩:=hs
  exact fin J rv q
 |next =>
  obtain⟨σ',H',J,q⟩:=hs
  exact fin (v:=V.non) (u:=Value.none) J rfl q
 |brk =>
  obtain⟨_,_,_,q⟩:=hs
  exact False.elim q
 |cont =>
  obtain⟨_,_,_,q⟩:=hs
  exact False.elim q
section
variable {X:Cx}{x:Str}{p pos:Pos}{e:Expr}{es:List Expr}{t:TA}{id T:String}{r:List V→Hp→VK→Prop}
noncomputable def yp(r:List V→Hp→VK→Prop)(t:TA):TE:=fun σ H Q=>t σ H fun vs H1=>r vs H1 Q
theorem sf (hc:gp X (.builtin id) r) (hg:Gl X x) (hm:X.mg x=none) (hv:bootBuiltins x=some (.builtin id)) (ha:PA X (e::es) t) (hn:x ≠ "__name__" := by decide) (uG:(x==("__debug__" : Str))=false:=by decide)
  (he:starEach (e::es) X.env=(false,eval e X.env)::starEach es X.env:=by rfl) (rh:(backTo pos (starEach es X.env)).any (·.1)=false:=by rfl):PE X (.Call (.Name x p) (e::es) [] pos) (yp r t):=by
 intro pins s σ H Q I h
 refine BG (p7 I hg hm hv ?_ hn uG)
 exact PyProof.Rows.callWith_builtin1 (aC (ha pos pins s σ H _ I h) fun us s1 ⟨vs,H1,I1,r1,q1⟩=>hc pins s1 σ H1 vs us Q I1 r1 q1) he rh
theorem zx (hc:gp X (.type T) r) (hg:Gl X x) (hm:X.mg x=none) (hv:bootBuiltins x=some (.type T)) (ha:PA X (e::es) t) (hn:x ≠ "__name__" := by decide) (uG:(x==("__debug__" : Str))=false:=by decide)
  (he:starEach (e::es) X.env=(false,eval e X.env)::starEach es X.env:=by rfl) (rh:(backTo pos (starEach es X.env)).any (·.1)=false:=by rfl):PE X (.Call (.Name x p) (e::es) [] pos) (yp r t):=by
 intro pins s σ H Q I h
 refine BG (p7 I hg hm hv ?_ hn uG)
 exact xW (aC (ha pos pins s σ H _ I h) fun us s1 ⟨vs,H1,I1,r1,q1⟩=>hc pins s1 σ H1 vs us Q I1 r1 q1) he rh
end
end L2
namespace HT
open PySem PyProof.Rows
section
open PySem.SeqAt
open PySem.AutoSeq1 (wpAny_loadPart')
open PySem.MeetsSeq PySem.MeetsSeq2 PySem.MeetsSeq3
end
section
variable {prog:Program}{w:World}{A:Around}{E:Value→Shared→Prop}{s:Shared}
theorem Qq{t b:Addr}{vs ws:List Value}{Q:Value→Shared→Prop}(ht:IsTup s.heap t vs.toArray)(hb:IsTup s.heap b ws.toArray)(hv:vs≠[])
  (h1:ws=[]→Q (.ref t) s) (h2:ws≠[]→Q (.ref s.heap.objs.size) { s with heap:=s.heap.push { cls:=.type "tuple",data:=.seq (vs++ws).toArray } })
  (hsz:vs.length+ws.length≤sizeLine):wpAny (model prog w) A (binaryOp .Add (.ref t) (.ref b)) Q E s:=by
 obtain⟨⟨cls,dd,data,sl⟩,ho,hc,n,hd⟩:=id ht
 obtain⟨⟨Wt,yq,data2,rj⟩,jK,mh,n2,hd2⟩:=id hb
 simp only at hc hd mh hd2
 subst hc hd mh hd2
 have e:vs.toArray++ws.toArray=(vs++ws).toArray:=by simp
 by_cases hw:ws=[]
 ·exact x4 ⟨_,ho,rfl⟩ ⟨_,jK,rfl⟩ BJ seq_tuple_add BK BL (BM _ _)
   (tuple_addW1 t b vs.toArray ws.toArray n n2 dd yq sl rj (by simpa using hv) (by simp[hw])) ⟨ho,jK,h1 hw⟩
 ·refine x4 ⟨_,ho,rfl⟩ ⟨_,jK,rfl⟩ BJ seq_tuple_add BK BL (BM _ _)
   (tuple_addW2 t b vs.toArray ws.toArray n n2 dd yq sl rj (by simpa using hv) (by simpa using hw) (by rw[List.size_toArray,List.size_toArray];exact hsz)) ⟨ho,jK,?_⟩
  rw[e]
  exact h2 hw
noncomputable def aS(n d:Nat):Option Int→Nat
 |none=>d
 |some v=>if v<0 then (v+(n:Int)).toNat else min v.toNat n
theorem S5(n d:Nat)(hd:d≤n)(o:Option Int):aS n d o≤n:=by
 cases o with
 |none=>exact hd
 |some v =>
  show(if v<0 then (v+(n:Int)).toNat else min v.toNat n)≤n
  by_cases hv:v<0
  ·rw[if_pos hv];omega
  ·rw[if_neg hv];exact Nat.min_le_right _ _
theorem FU(v:Int)(n d:Nat):(if v<0 then max (v+(n:Int)) 0 else min v (n:Int))=((aS n d (some v):Nat):Int):=by
 show(if v<0 then max (v+(n:Int)) 0 else min v (n:Int))=(((if v<0 then (v+(n:Int)).toNat else min v.toNat n):Nat):Int)
 by_cases hv:v<0
 ·simp only[if_pos hv];omega
 ·simp only[if_neg hv];omega
theorem MV(lo hi:Option Int)(n:Nat):Builtin.Slice.sliceAdjust lo hi 1 (n:Int)=(((aS n 0 lo:Nat):Int),((aS n n hi:Nat):Int)):=by
 have h1:¬((1:Int)<0):=by omega
 unfold Builtin.Slice.sliceAdjust
 simp only[h1,if_false]
 refine Prod.ext ?_ ?_
 ·cases lo with
  |none=>rfl
  |some v=>exact FU v n 0
 ·cases hi with
  |none=>rfl
  |some v=>exact FU v n n
theorem MX(i j:Nat):Builtin.Slice.slicePlaces (i:Int) (j:Int) 1=j-i:=by
 unfold Builtin.Slice.slicePlaces
 have h1:(1:Int)>0:=by omega
 simp only[h1,if_true,Int.ediv_one]
 split<;>omega
theorem Ed{v:Value}{o:Option Int}{Q:Option Int→Shared→Prop}(p:IsPart v o)(h:Q o s):wpAny (model prog w) A (Builtin.Slice.slicePartIndex v) Q E s:=by
 cases p with
 |none=>exact slicePart_none h
 |int i t=>exact slicePart_int h
theorem DP{sl:Addr}{vl vu:Value}{lo hi:Option Int}{n:Nat}{Q:Int×Int×Nat→Shared→Prop}(hs:s.heap.IsSliceOf sl vl vu .none)(pl:IsPart vl lo)(pu:IsPart vu hi)
  (h:Q (((aS n 0 lo:Nat):Int),1,aS n n hi-aS n 0 lo) s):wpAny (model prog w) A (Builtin.Slice.sliceApplied (.ref sl) (pure (n:Int))) Q E s:=by
 obtain⟨os,pj,fN,uI⟩:=id hs
 unfold Builtin.Slice.sliceApplied Builtin.Slice.sliceFields
 refine av (av (wpAny_field pj uI (x:=vl) rfl (av (wpAny_field pj uI (x:=vu) rfl (av (wpAny_field pj uI (x:=.none) rfl (aO ?_)))))))
 refine av (slicePart_none ?_)
 show wpAny _ _ (if ((1:Int)==0)=true then _ else _) _ _ s
 rw[if_neg (by decide)]
 refine av (Ed pl (av (Ed pu (av (aO ?_)))))
 show wpAny _ _ (match Builtin.Slice.sliceAdjust lo hi 1 (n:Int)with | (lo,hi)=>pure (lo,(1:Int),Builtin.Slice.slicePlaces lo hi 1)) _ _ s
 rw[MV lo hi n]
 show wpAny _ _ (pure (((aS n 0 lo:Nat):Int),(1:Int),Builtin.Slice.slicePlaces ((aS n 0 lo:Nat):Int) ((aS n n hi:Nat):Int) 1)) _ _ s
 rw[MX]
 exact aO h
theorem OS(xs:Array Value)(i k:Nat):((List.range k).filterMap fun(m:Nat)=>xs[((i:Int)+(m:Int)*1).toNat]?).toArray=((xs.toList.drop i).take k).toArray:=by
 have e:(fun(m:Nat)=>xs[((i:Int)+(m:Int)*1).toNat]?)=fun m=>xs[i+m]?:=by
  funext m
  have:((i:Int)+(m:Int)*1).toNat=i+m:=by omega
  rw[this]
 rw[e]
 have:=pick_run xs i k
 rw[List.filterMap_map]at this
 have e2:((fun x=>xs[x]?)∘fun x=>i+x)=fun m=>xs[i+m]?:=rfl
 rw[e2]at this
 rw[this]
theorem Mp{t sl:Addr}{items:Array Value}{vl vu:Value}{lo hi:Option Int}{Q:Value→Shared→Prop}(ht:IsTup s.heap t items)(hs:s.heap.IsSliceOf sl vl vu .none)(pl:IsPart vl lo)(pu:IsPart vu hi)
  (hw:¬(aS items.size 0 lo=0∧aS items.size items.size hi=items.size))
  (h:Q (.ref s.heap.objs.size) { s with heap:=s.heap.push { cls:=.type "tuple",data:=.seq ((items.toList.drop (aS items.size 0 lo)).take (aS items.size items.size hi-aS items.size 0 lo)).toArray } })
  (hsz:items.size≤sizeLine):wpAny (model prog w) A (getItem (.ref t) (.ref sl)) Q E s:=by
 have wH:sizeOk (.seq ((items.toList.drop (aS items.size 0 lo)).take (aS items.size items.size hi-aS items.size 0 lo)).toArray):=by
  show((items.toList.drop (aS items.size 0 lo)).take (aS items.size items.size hi-aS items.size 0 lo)).toArray.size≤sizeLine
  rw[fY,kH,List.length_drop,BO]
  omega
 have hj:aS items.size items.size hi≤items.size:=S5 _ _ (aR _) hi
 obtain⟨os,pj,fN,uI⟩:=id hs
 have Cd:s.TypeIs (.ref sl) "slice" := ⟨os,pj,fN⟩
 unfold getItem
 try with_reducible refine lS ?_
 first|refine av (aO ?_)|skip
 refine av (wpAny_sequenceKey ht.typeIs (by decide) ?_)
 refine av (x5 (name:=Str.ofString "__getitem__") ht.typeIs qS
  (oT qS ht.typeIs entry_tuple_getitem ?_ (args_tuple_getitem _ _)))
 show wpAny _ _ (Builtin.Tuple.tupleItemsOf (.ref t) >>= _) _ _ s
 refine av (tupleItemsOf_ ht ?_)
 refine av (wpAny_typeOf Cd ?_)
 rw[if_pos (by decide)]
 refine av (DP hs pl pu ?_)
 have Xr:¬((((aS items.size 0 lo:Nat):Int)==0&&(1:Int)==1&&(aS items.size items.size hi-aS items.size 0 lo)==items.size)=true):=by
  intro q
  rw[gx,gx]at q
  have q1:((aS items.size 0 lo:Nat):Int)=0:=eq_of_beq q.1.1
  have q2:aS items.size items.size hi-aS items.size 0 lo=items.size:=eq_of_beq q.2
  exact hw ⟨by omega,by omega⟩
 show wpAny _ _ (if (((aS items.size 0 lo:Nat):Int)==0&&(1:Int)==1&&(aS items.size items.size hi-aS items.size 0 lo)==items.size)=true then _ else _) _ _ s
 rw[if_neg Xr,OS]
 first
  |exact av (m:=Builtin.Tuple.tupleExact _) (kJ (aO ⟨_,rfl,aO h⟩) wH)
  |exact av (m:=Builtin.Tuple.tupleExact _) (kJ (av (aO (aO ⟨_,rfl,aO h⟩))) wH)
  |exact av (av (m:=Builtin.Tuple.tupleExact _) (kJ (aO (aO ⟨_,rfl,aO h⟩)) wH))
  |exact av (av (m:=Builtin.Tuple.tupleExact _) (kJ (aO ⟨_,rfl,aO h⟩) wH))
end
end HT
namespace L2
open PySem PySem.Spec PyProof.Rows
noncomputable abbrev TO:=St→Hp→(Option Int→Hp→Prop)→Prop
def PO(X:Cx)(e:Option Expr)(t:TO):Prop :=
 ∀(pins:List (Addr×Obj)) (s:Shared) (σ:St) (H:Hp) (Q:Option Int→Hp→Prop),Inv X pins σ H s→t σ H Q →
  wpAny (model X.prog X.w) X.A (evalPart e X.env) (fun u s'=>∃o H',Inv X pins σ H' s'∧IsPart u o∧Q o H') X.xe s
noncomputable def FV:TO:=fun _ H Q=>Q none H
noncomputable def HY(t:TE):TO:=fun σ H Q=>t σ H fun x H1=>∃i,x=.int i∧Q (some i) H1
section
variable {X:Cx}{e:Expr}{te:TE}{lo hi:Option Expr}{tl th:TO}{pos p2:Pos}
theorem Qr:PO X none FV:=by
 intro pins s σ H Q I h
 rw[evalPart_none]
 exact aO ⟨none,H,I,.none,h⟩
theorem Qs(h:PE X e te):PO X (some e) (HY te):=by
 intro pins s σ H Q I hw
 rw[evalPart_some]
 refine aC (h pins s σ H _ I hw) fun u s1 ⟨x,H1,I1,r1,q1⟩=>?_
 obtain⟨i,rfl,q⟩:=q1
 obtain⟨t,rfl⟩:=r1
 exact⟨some i,H1,I1,.int i t,q⟩
def kU(X:Cx)(r:V→Option Int→Option Int→Hp→VK→Prop):Prop :=
 ∀(pins:List (Addr×Obj)) (s:Shared) (σ:St) (H:Hp) (x:V) (v vl vu:Value) (lo hi:Option Int) (sl:Addr) (Q:VK),Inv X pins σ H s→RelV x v→s.heap.IsSliceOf sl vl vu .none→IsPart vl lo→IsPart vu hi→r x lo hi H Q →
  ∃T id,typeLookup (.type T) "__getitem__" = pure (some (.builtin id))∧s.TypeIs v T∧wpAny (model X.prog X.w) X.A (getItem v (.ref sl)) (EP X pins σ Q) X.xe s
noncomputable def Kt(r:V→Option Int→Option Int→Hp→VK→Prop)(te:TE)(tl th:TO):TE:=fun σ H Q=>te σ H fun x H1=>tl σ H1 fun l H2=>th σ H2 fun u H3=>r x l u H3 Q
theorem OU{r:V→Option Int→Option Int→Hp→VK→Prop}(hr:kU X r)(he:PE X e te)(hl:PO X lo tl)(hu:PO X hi th):PE X (.Subscript e (.Slice lo hi none p2) pos) (Kt r te tl th):=by
 intro pins s σ H Q I h
 refine Subscript_ (aC (he pins s σ H _ I h) fun v s1 ⟨x,H1,I1,r1,q1⟩=>?_)
 refine wpAny_Slice (aC (hl pins s1 σ H1 _ I1 q1) fun vl s2 ⟨l,H2,I2,pl,q2⟩=>aC (hu pins s2 σ H2 _ I2 q2) fun vu s3 ⟨u,H3,I3,pu,q3⟩=>?_)
 rw[evalPart_none]
 refine aO ?_
 have I4:Inv X pins σ H3 { s3 with heap:=s3.heap.push { cls:=.type "slice",data:=.fields #[vl,vu,.none] } }:=I3.kept (t':=s3.toks) fun b ob q=>cy _ q
 obtain⟨T,id,hT,ht,hg⟩:=hr pins { s3 with heap:=s3.heap.push { cls:=.type "slice",data:=.fields #[vl,vu,.none] } } σ H3 x v vl vu l u s3.heap.objs.size Q I4 r1 (Heap.IsSliceOf.new ..) pl pu q3
 show wpAny (model X.prog X.w) X.A (subscriptTail e (.Slice lo hi none p2) v (.ref s3.heap.objs.size)) (EP X pins σ Q) X.xe { s3 with heap:=s3.heap.push { cls:=.type "slice",data:=.fields #[vl,vu,.none] } }
 exact tail_any (ops:=[.ref s3.heap.objs.size,v]) ht hT hg (by with_unfolding_all rfl)
noncomputable def iG(xs:List V)(lo hi:Option Int):List V:=(xs.drop (HT.aS xs.length 0 lo)).take (HT.aS xs.length xs.length hi-HT.aS xs.length 0 lo)
theorem D0(xs:List V)(lo hi:Option Int):(iG xs lo hi).length≤xs.length:=by
 unfold iG
 rw[kH,List.length_drop]
 omega
def Wu(K:PySem.W.Frag):V→Option Int→Option Int→Hp→VK→Prop:=fun x lo hi H Q=>∃a xs,x=.ref a∧bf K H a xs ∧
 ¬(HT.aS xs.length 0 lo=0∧HT.aS xs.length xs.length hi=xs.length)∧∀p,H p=none→Q (.ref p) (upd H p (.tup (iG xs lo hi)))
theorem S6:kU X (Wu X.K):=by
 intro pins s σ H x v vl vu lo hi sl Q I rx hs pl pu h
 obtain⟨a,xs,rfl,hx,hw,q⟩:=h
 cases rx
 obtain⟨its,r,ht,hz⟩:=I.tuple hx
 have hlen:its.toArray.size=xs.length:=by rw[fY];exact r.length.symm
 refine⟨"tuple",_,qS.lookup,ht.typeIs,?_⟩
 refine HT.Mp ht hs pl pu (by rw[hlen];exact hw) ?_ (by rw[hlen];exact hz)
 rw[hlen]
 refine⟨.ref s.heap.objs.size,_,I.laid (t':=s.toks) (o:=.tup (iG xs lo hi)) (fun b ob q=>cy _ q) (aR _) ?_,rfl,q _ (I.az.fresh (aR _))⟩
 exact⟨bQ (D0 xs lo hi) hz,_,(r.drop (HT.aS xs.length 0 lo)).take (HT.aS xs.length xs.length hi-HT.aS xs.length 0 lo),oE.new _ _⟩
noncomputable def Vh(K:PySem.W.Frag):R2:=fun x y H Q=>∃a b xs ys,x=.ref a∧y=.ref b∧bf K H a xs∧bf K H b ys∧xs≠[]∧xs.length+ys.length≤sizeLine ∧
 (ys=[]→Q (.ref a) H)∧(ys≠[]→∀p,H p=none→Q (.ref p) (upd H p (.tup (xs++ys))))
theorem Vals.zM{xs:List V}{us:List Value}(r:Vals xs us):us=[]↔xs=[]:=by
 cases r with
 |nil=>simp
 |cons _ _=>simp
theorem Qt:bA X (binaryOp .Add) (Vh X.K):=by
 intro pins s σ H x y v u Q I rx ry h
 obtain⟨a,b,xs,ys,rfl,rfl,ha,hb,hx,hz,q1,q2⟩:=h
 cases rx
 cases ry
 obtain⟨its,r1,p1,_⟩:=I.tuple ha
 obtain⟨tR,r2,p2,_⟩:=I.tuple hb
 refine HT.Qq p1 p2 (fun z=>hx (r1.zM.mp z)) (fun z=>⟨.ref a,H,I,rfl,q1 (r2.zM.mp z)⟩) (fun z=>?_) (by rw[←r1.length,←r2.length];exact hz)
 refine⟨.ref s.heap.objs.size,_,I.laid (t':=s.toks) (o:=.tup (xs++ys)) (fun b ob q=>cy _ q) (aR _) ?_,rfl,q2 (fun w=>z (r2.zM.mpr w)) _ (I.az.fresh (aR _))⟩
 exact⟨by rw[b9];exact hz,_,r1.append r2,oE.new _ _⟩
end
noncomputable def dF(n:Nat)(i:Int):Option Nat:=if 0≤i then (if i<n then some i.toNat else none)else if -(n:Int)≤i then some (i+n).toNat else none
noncomputable def aX{α:Type}(xs:List α)(i:Int):Option α:=(dF xs.length i).bind fun j=>xs[j]?
theorem FW{n:Nat}{i:Int}{j:Nat}(h:dF n i=some j):seqIndex? i n=some j∧j<n∧-(n:Int)≤i∧i<n:=by
 unfold dF at h
 by_cases h0:0≤i
 ·rw[if_pos h0]at h
  by_cases h1:i<n
  ·rw[if_pos h1]at h
   have e:i.toNat=j:=c9 h
   exact⟨by rw[seqIndex_of h0 h1,e],by omega,by omega,h1⟩
  ·rw[if_neg h1]at h;cases h
 ·rw[if_neg h0]at h
  by_cases h1:-(n:Int)≤i
  ·rw[if_pos h1]at h
   have e:(i+n).toNat=j:=c9 h
   exact⟨by rw[seqIndex_neg (by omega) h1,e],by omega,h1,by omega⟩
  ·rw[if_neg h1]at h;cases h
theorem i6{α:Type}{xs:List α}{i:Int}{v:α}(h:aX xs i=some v):∃j,seqIndex? i xs.length=some j∧xs[j]?=some v∧j<xs.length∧-(xs.length:Int)≤i∧i<xs.length:=by
 unfold aX at h
 cases e:dF xs.length i with
 |none=>rw[e]at h;cases h
 |some j =>
  rw[e]at h
  obtain⟨h1,h2,h3,h4⟩:=FW e
  exact⟨j,h1,h,h2,h3,h4⟩
theorem gY{α:Type}{xs:List α}{j:Nat}{v:α}(h:xs[j]?=some v):aX xs (j:Int)=some v:=by
 have hj:j<xs.length:=(bt.mp h).1
 have e:dF xs.length (j:Int)=some j:=by
  unfold dF
  rw[if_pos (by omega),if_pos (by omega)];simp
 unfold aX;rw[e];exact h
def FX(b:Expr):Prop:=∀o i,subscripted b false o i=operate [o,i] (getItem o i)
def jL(X:Cx)(r:R2):Prop :=
 ∀(value slice:Expr) (pins:List (Addr×Obj)) (s:Shared) (σ:St) (H:Hp) (x y:V) (v u:Value) (Q:VK),Inv X pins σ H s→RelV x v→RelV y u→r x y H Q →
  subscripted slice false v u=operate [v,u] (getItem v u)→wpAny (model X.prog X.w) X.A (subscriptTail value slice v u) (EP X pins σ Q) X.xe s
def yr(X:Cx)(id:String)(r:V→List V→Hp→VK→Prop):Prop :=
 ∀(pins:List (Addr×Obj)) (s:Shared) (σ:St) (H:Hp) (x:V) (xs:List V) (v:Value) (us:List Value) (Q:VK),Inv X pins σ H s→RelV x v→Vals xs us→r x xs H Q →
  wpAny (model X.prog X.w) X.A (call (.builtin id) (v::us)) (EP X pins σ Q) X.xe s
section
variable {X:Cx}{a b:Expr}{ta tb:TE}{pos:Pos}
theorem jL.or{r r':R2}(h:jL X r)(h':jL X r'):jL X (fun x y H Q=>r x y H Q∨r' x y H Q):=by
 intro value slice pins s σ H x y v u Q I rx ry q hs
 rcases q with q|q
 ·exact h value slice pins s σ H x y v u Q I rx ry q hs
 ·exact h' value slice pins s σ H x y v u Q I rx ry q hs
theorem wI{r:R2}(hr:jL X r)(ha:PE X a ta)(hb:PE X b tb)(hs:FX b):PE X (.Subscript a b pos) (lZ r ta tb):=by
 intro pins s σ H Q I h
 exact Subscript_ (AW ha hb I h fun v u s2 x y H2 I2 rx ry q=>hr a b pins s2 σ H2 x y v u Q I2 rx ry q (hs _ _))
noncomputable def Jp(K:PySem.W.Frag):R2:=fun x y H Q=>∃p xs i v,x=.ref p∧y=.int i∧bw K H p xs∧aX xs i=some v∧Q v H
noncomputable def Jq(K:PySem.W.Frag):R2:=fun x y H Q=>∃p xs i v,x=.ref p∧y=.int i∧bf K H p xs∧aX xs i=some v∧Q v H
noncomputable def Jr:R2:=fun x y H Q=>∃z i c,x=.str z∧y=.int i∧z.length≤sizeLine∧aX z.cps.toList i=some c∧Q (.str ⟨#[c]⟩) H
theorem Qu:jL X (Jp X.K):=by
 intro value slice pins s σ H x y v u Q I rx ry h hs
 obtain⟨p,xs,i,z,rfl,rfl,hq,he,q⟩:=h
 cases rx
 obtain⟨t,rfl⟩:=ry
 obtain⟨its,r,pl,hz⟩:=I.list hq
 obtain⟨j,h1,h2,h3,h4,h5⟩:=i6 he
 obtain⟨w,ew,gB⟩:=r.get h2
 have hl:=r.length
 have hn:=p8
 have fin:EP X pins σ Q w s:=⟨z,H,I,gB,q⟩
 by_cases h0:0≤i
 ·have hj:i.toNat=j:=by
   rw[seqIndex_of h0 h5]at h1
   exact c9 h1
  exact item_listR pl.isList h0 (by omega) (by rw[hj];simpa using ew) fin hs
 ·have hj:(i+(its.toArray.size:Int)).toNat=j:=by
   rw[seqIndex_neg (by omega) h4]at h1
   rw[fY,←hl]
   exact c9 h1
  exact subscriptTail_builtinR (x:=w) pl.isList.typeIs slot_list_getitem.lookup
   (wpAny_getItem_list_neg (Q:=fun r s'=>r=w∧EP X pins σ Q r s') pl.isList (by omega) (by rw[fY]<;>omega) (by omega) (by rw[hj];simpa using ew) ⟨rfl,fin⟩) hs
theorem S7:jL X (Jq X.K):=by
 intro value slice pins s σ H x y v u Q I rx ry h hs
 obtain⟨p,xs,i,z,rfl,rfl,hq,he,q⟩:=h
 cases rx
 obtain⟨t,rfl⟩:=ry
 obtain⟨its,r,pl,hz⟩:=I.tuple hq
 obtain⟨j,h1,h2,h3,h4,h5⟩:=i6 he
 obtain⟨w,ew,gB⟩:=r.get h2
 have hl:=r.length
 have hn:=p8
 have fin:EP X pins σ Q w s:=⟨z,H,I,gB,q⟩
 exact subscriptTail_builtinR (x:=w) pl.typeIs slot_tuple_getitem.lookup
  (getItem_tuple (j:=j) (Q:=fun r s'=>r=w∧EP X pins σ Q r s') pl (by omega) (by omega) (by rw[fY,←hl];exact h1) (by simpa using ew) ⟨rfl,fin⟩) hs
theorem S8:jL X Jr:=by
 intro value slice pins s σ H x y v u Q I rx ry h hs
 obtain⟨z,i,c,rfl,rfl,hz,he,q⟩:=h
 obtain⟨t,rfl⟩:=rx
 obtain⟨t',rfl⟩:=ry
 obtain⟨j,h1,h2,h3,h4,h5⟩:=i6 he
 have hl:z.cps.toList.length=z.length:=by simp[Str.length]
 rw[hl]at h1 h4 h5
 have hn:=p8
 exact tail_any (typeIs_str s z t) slot_str_getitem.lookup (getItem_str (c:=c) (by
  have e1:decide (i < -(2^63:Int))=false:=fJ (by omega)
  have e2:decide (i≥2^63)=false:=fJ (by omega)
  rw[e1,e2,Bool.or_false]) (by rw[h1];simpa using h2) ⟨.str ⟨#[c]⟩,H,I.tok _,⟨_,rfl⟩,q⟩) hs
noncomputable def rn(K:PySem.W.Frag):R2:=fun x y H Q=>Jp K x y H Q∨Jq K x y H Q∨Jr x y H Q
theorem S9:jL X (rn X.K):=Qu.or (S7.or S8)
theorem MY(its:List Value)(n j:Nat)(u:Value):Obj.mapSeq (·.setIfInBounds j u) { cls:=.type "list",data:=.seq its.toArray n }={ cls:=.type "list",data:=.seq (its.set j u).toArray n }:=by
 simp[Obj.mapSeq]
theorem Inv.lst{pins:List (Addr×Obj)}{σ:St}{H:Hp}{s:Shared}{p:Addr}{xs:List V}(I:Inv X pins σ H s)(h:H p=some (.lst xs)) :
  ∃(its:List Value) (n:Nat),Vals xs its∧s.heap.get? p=some { cls:=.type "list",data:=.seq its.toArray n }∧xs.length≤sizeLine:=by
 obtain⟨z,its,n,r,e⟩:=I.az p _ h
 exact⟨its,n,r,e,z⟩
theorem Inv.Ta{pins:List (Addr×Obj)}{σ:St}{H:Hp}{s:Shared}{p:Addr}{xs ys:List V}{its its':List Value}{n n':Nat}{f:Obj→Obj}(I:Inv X pins σ H s)(h:H p=some (.lst xs))
  (ho:s.heap.get? p=some { cls:=.type "list",data:=.seq its.toArray n }) (hf:f { cls:=.type "list",data:=.seq its.toArray n }={ cls:=.type "list",data:=.seq its'.toArray n' }) (r:Vals ys its') (hz:ys.length≤sizeLine) (t:Nat) :
  Inv X pins σ (upd H p (.lst ys)) { s with heap:=s.heap.update p f,toks:=t }:=by
 have e:(s.heap.update p f).get? p=some { cls:=.type "list",data:=.seq its'.toArray n' }:=by
  rw[Heap.get?_update_self f ho (by rw[hf]<;>rfl),hf]
 refine I.write (x:=p) (e:=p) (by rw[h];trivial) (.inl rfl) (fun b u hb q=>(Heap.get?_update_other _ _ (jD hb)).trans q) ⟨_,e⟩ ?_
 exact⟨hz,its',n',r,e⟩
def HZ:V→V→V→Hp→(Hp→Prop)→Prop:=fun o i v H Q=>∃p xs k j,o=.ref p∧i=.int k∧H p=some (.lst xs)∧dF xs.length k=some j∧Q (upd H p (.lst (xs.set j v)))
theorem set_list:Jj X HZ:=by
 intro pins s σ H o i v ov iv u Q I ro ri rv h
 obtain⟨p,xs,k,j,rfl,rfl,hp,hj,q⟩:=h
 cases ro
 obtain⟨t,rfl⟩:=ri
 obtain⟨its,n,r,ho,hz⟩:=I.lst hp
 obtain⟨h1,h2,h3,h4⟩:=FW hj
 have hl:=r.length
 have hn:=p8
 have I':Inv X pins σ (upd H p (.lst (xs.set j v))) { s with heap:=s.heap.update p (Obj.mapSeq (·.setIfInBounds j u)) } :=
  I.Ta hp ho (MY its n j u) (r.set rv j) (by rw[hG];exact hz) s.toks
 by_cases h0:0≤k
 ·have hk:k.toNat=j:=by
   rw[seqIndex_of h0 h4]at h1
   exact c9 h1
  exact PySem.W.ki_setAt ho h0 (by omega) (by rw[fY,←hl];exact h4) (by rw[hk];exact⟨_,I',q⟩)
 ·have hk:(k+(its.toArray.size:Int)).toNat=j:=by
   rw[seqIndex_neg (by omega) h3]at h1
   rw[fY,←hl]
   exact c9 h1
  exact PySem.W.ki_setBack ho (by omega) (by rw[fY,←hl];exact h3) (by omega) (by rw[hk];exact⟨_,I',q⟩)
theorem Mv(lo hi:Option Int)(n:Nat):(sliceBounds lo hi none n).1=((HT.aS n 0 lo:Nat):Int)∧(sliceBounds lo hi none n).2.1=((HT.aS n n hi:Nat):Int)∧(sliceBounds lo hi none n).2.2=1:=by
 refine⟨?_,?_,rfl⟩
 ·cases lo with
  |none=>simp[sliceBounds,HT.aS]
  |some i =>
   simp only[sliceBounds,HT.aS,Option.getD_none,show(1:Int)>0 by decide,if_true]
   by_cases h:i<0
   ·simp only[h,if_true]<;>omega
   ·simp only[h,if_false]<;>omega
 ·cases hi with
  |none=>simp[sliceBounds,HT.aS]
  |some i =>
   simp only[sliceBounds,HT.aS,Option.getD_none,show(1:Int)>0 by decide,if_true]
   by_cases h:i<0
   ·simp only[h,if_true]<;>omega
   ·simp only[h,if_false]<;>omega
theorem Mt(its:List Value)(lo hi:Option Int):slicePick its.toArray lo hi none=((its.drop (HT.aS its.length 0 lo)).take (HT.aS its.length its.length hi-HT.aS its.length 0 lo)).toArray:=by
 obtain⟨h1,h2,h3⟩:=Mv lo hi its.toArray.size
 unfold slicePick
 rw[h1,h2,h3]
 simp only[sliceRange_one,pick_run,List.size_toArray]<;>rfl
def A0(K:PySem.W.Frag):V→Option Int→Option Int→Hp→VK→Prop:=fun x lo hi H Q=>∃a xs,x=.ref a∧bw K H a xs∧∀p,H p=none→Q (.ref p) (upd H p (.lst (iG xs lo hi)))
theorem Qv:kU X (A0 X.K):=by
 intro pins s σ H x v vl vu lo hi sl Q I rx hs pl pu h
 obtain⟨a,xs,rfl,hx,q⟩:=h
 cases rx
 obtain⟨its,r,ht,hz⟩:=I.list hx
 have hlen:=r.length
 refine⟨"list",_,slot_list_getitem.lookup,ht.isList.typeIs,?_⟩
 refine wpAny_getItem_list_slice ht.isList hs pl pu .none (by simp) ?_ (by rw[List.size_toArray]<;>omega)
 rw[Mt,←hlen]
 refine⟨.ref s.heap.objs.size,_,I.laid (t':=s.toks) (o:=.lst (iG xs lo hi)) (fun b ob q=>cy _ q) (aR _) ?_,rfl,q _ (I.az.fresh (aR _))⟩
 exact⟨bQ (D0 xs lo hi) hz,_,0,(r.drop (HT.aS xs.length 0 lo)).take (HT.aS xs.length xs.length hi-HT.aS xs.length 0 lo),eU _ rfl⟩
noncomputable def jj:V→Bool
 |.non=>true
 |.bl _=>true
 |.int _=>true
 |.str _=>true
 |_=>false
noncomputable def jM:V→V→Bool
 |.non,.non=>true
 |.bl a,.bl b=>a==b
 |.bl a,.int b=>(if a then 1 else 0)==b
 |.int a,.bl b=>a==(if b then 1 else 0)
 |.int a,.int b=>a==b
 |.str a,.str b=>a==b
 |_,_=>false
theorem Tb{A:Around}{s:Shared}{y x:V}{u v:Value}(ry:RelV y u)(rx:RelV x v)(fy:jj y=true)(fx:jj x=true):SeqAt.EqAt A s u v (jM y x):=by
 cases y with
 |non =>
  cases ry
  cases x with
  |non=>cases rx;exact qR _
  |bl b=>cases rx;exact SeqAt.EqAt.none_bool b
  |int b=>obtain⟨t,rfl⟩:=rx;exact BD b t
  |str b=>obtain⟨t,rfl⟩:=rx;exact BE b t
  |_=>exact absurd (show false=true from fx) aZ
 |bl a =>
  cases ry
  cases x with
  |non=>cases rx;exact SeqAt.EqAt.bool_none a
  |bl b=>cases rx;exact SeqAt.EqAt.bool_bool a b
  |int b=>obtain⟨t,rfl⟩:=rx;exact SeqAt.EqAt.bool_int a b t
  |str b=>obtain⟨t,rfl⟩:=rx;exact SeqAt.EqAt.bool_str a b t
  |_=>exact absurd (show false=true from fx) aZ
 |int a =>
  obtain⟨t',rfl⟩:=ry
  cases x with
  |non=>cases rx;exact Bx a t'
  |bl b=>cases rx;exact SeqAt.EqAt.int_bool a t' b
  |int b=>obtain⟨t,rfl⟩:=rx;exact SeqAt.EqAt.int_int a t' b t
  |str b=>obtain⟨t,rfl⟩:=rx;exact Bw a t' b t
  |_=>exact absurd (show false=true from fx) aZ
 |str a =>
  obtain⟨t',rfl⟩:=ry
  cases x with
  |non=>cases rx;exact Bz a t'
  |bl b=>cases rx;exact SeqAt.EqAt.str_bool a t' b
  |int b=>obtain⟨t,rfl⟩:=rx;exact By a t' b t
  |str b=>obtain⟨t,rfl⟩:=rx;exact SeqAt.EqAt.str_str a t' b t
  |_=>exact absurd (show false=true from fx) aZ
 |_=>exact absurd (show false=true from fy) aZ
noncomputable def kW(x:V)(u:Value):Bool:=match u with
 |.none=>jM .non x
 |.bool b=>jM (.bl b) x
 |.int i _=>jM (.int i) x
 |.str z _=>jM (.str z) x
 |_=>false
theorem GP{x y:V}{u:Value}(r:RelV y u)(f:jj y=true):kW x u=jM y x:=by
 cases y with
 |non=>cases r;rfl
 |bl b=>cases r;rfl
 |int i=>obtain⟨t,rfl⟩:=r;rfl
 |str z=>obtain⟨t,rfl⟩:=r;rfl
 |_=>exact absurd (show false=true from f) aZ
theorem zN{x:V}:∀{xs:List V}{us:List Value},Vals xs us→xs.all jj=true→us.any (kW x)=xs.any fun y=>jM y x
 |_,_,.nil,_=>rfl
 |y::xs,u::us,.cons r t,f=>by
  rw[jE,gx]at f
  rw[ui,ui,GP r f.1,zN t f.2]
theorem zD{A:Around}{s:Shared}{x:V}{v:Value}(rx:RelV x v)(fx:jj x=true):∀{xs:List V}{us:List Value},Vals xs us→xs.all jj=true→∀u∈us,SeqAt.EqAt A s u v (kW x u)
 |_,_,.nil,_=>fun u hu=>by cases hu
 |y::xs,u::us,.cons r t,f=>fun u' hu=>by
  rw[jE,gx]at f
  rcases fK.mp hu with rfl|hu
  ·rw[GP r f.1];exact Tb r rx f.1 fx
  ·exact zD rx fx t f.2 u' hu
noncomputable def dW(x:V)(xs:List V):Bool:=xs.any fun y=>jM y x
noncomputable def Ce(K:PySem.W.Frag)(neg:Bool):R2:=fun x y H Q=>∃p xs,y=.ref p∧(bw K H p xs∨bf K H p xs)∧jj x=true∧xs.all jj=true∧Q (.bl (if neg then !dW x xs else dW x xs)) H
theorem Nx:bA X (compareOp .In) (Ce X.K false):=by
 intro pins s σ H x y v u Q I rx ry h
 obtain⟨p,xs,rfl,hq,fx,fs,q⟩:=h
 cases ry
 rcases hq with hq|hq
 ·obtain⟨its,r,pl,hz⟩:=I.list hq
  refine SeqAt.in_listAt (kW x) pl.isList (fun w hw=>zD rx fx r fs w (by simpa using hw)) ⟨.bl _,H,I,rfl,?_⟩
  rw[show its.toArray.any (kW x)=its.any (kW x) by simp,zN r fs]
  exact q
 ·obtain⟨its,r,pl,hz⟩:=I.tuple hq
  refine SeqAt.in_tupleAt (kW x) pl (fun w hw=>zD rx fx r fs w (by simpa using hw)) ⟨.bl _,H,I,rfl,?_⟩
  rw[show its.toArray.any (kW x)=its.any (kW x) by simp,zN r fs]
  exact q
theorem Mw:gp X (.type "list") (fun xs H Q=>∃p ys,xs=[.ref p]∧(bw X.K H p ys∨bf X.K H p ys)∧∀l,H l=none→Q (.ref l) (upd H l (.lst ys))):=by
 intro pins s σ H xs us Q I r h
 obtain⟨p,ys,rfl,hq,q⟩:=h
 obtain⟨u,rfl,rx⟩:=vals1 r
 cases rx
 have fin:∀(its:List Value),Vals ys its→ys.length≤sizeLine→∀(h':Heap) (c':Nat),(∀b o',s.heap.get? b=some o'→h'.get? b=some o') →
   h'.get? s.heap.objs.size=some { cls:=.type "list",dict:=none,data:=.seq its.toArray c',slots:=#[] }→EP X pins σ Q (.ref s.heap.objs.size) { s with heap:=h' }:=fun its r' hz h' c' kp e =>
  ⟨.ref s.heap.objs.size,_,I.laid (t':=s.toks) kp (aR _) (show bT X.prog X.w _ h' _ (.lst ys) from⟨hz,its,c',r',e⟩),rfl,q _ (I.az.fresh (aR _))⟩
 rcases hq with hq|hq
 ·obtain⟨its,r',pl,hz⟩:=I.list hq
  have hlen:=r'.length
  obtain⟨o,ho,hc,n,hd⟩:=pl.isList
  exact call_list_seq p (.inl rfl) ho hc hd (fun h' c' kp e=>fin its r' hz h' c' kp e) (by simp only[List.size_toArray]<;>omega)
 ·obtain⟨its,r',pl,hz⟩:=I.tuple hq
  have hlen:=r'.length
  obtain⟨o,ho,hc,n,hd⟩:=pl
  exact call_list_seq p (.inr rfl) ho hc hd (fun h' c' kp e=>fin its r' hz h' c' kp e) (by simp only[List.size_toArray]<;>omega)
def Cg(K:PySem.W.Frag)(T:String)(x:V)(H:Hp):Prop:=match x with
 |.str _=>T = "str"
 |.int _=>T = "int"
 |.ref p=>(T = "list" ∧ ∃xs,bw K H p xs)∨(T = "tuple" ∧ ∃o,K.lookup p=some o∧o.cls=.type "tuple" ∧ o.dict=none) ∨
  (T = "dict" ∧ ((∃kvs,H p=some (.dK kvs))∨∃kvs,H p=some (.dT kvs)))∨(T = "set" ∧ ∃S n,H p=some (.set S n))
 |_=>False
theorem GQ{pins:List (Addr×Obj)}{σ:St}{H:Hp}{s:Shared}{T:String}{x:V}{v:Value}(I:Inv X pins σ H s)(r:RelV x v)(ty:Cg X.K T x H) :
  s.TypeIs v T∧∀a,v=.ref a→∃ob,s.heap.get? a=some ob∧ob.dict=none:=by
 cases x with
 |str z =>
  obtain⟨t,rfl⟩:=r
  cases (show T = "str" from ty)
  exact⟨typeIs_str s z t,fun _ e=>nomatch e⟩
 |int i =>
  obtain⟨t,rfl⟩:=r
  cases (show T = "int" from ty)
  exact⟨typeIs_int s i t,fun _ e=>nomatch e⟩
 |ref p =>
  cases r
  rcases ty with⟨rfl,xs,hq⟩|⟨rfl,o,hk,hc,hd⟩|⟨rfl,hk⟩|⟨rfl,S,n,hk⟩
  ·obtain⟨its,_,pl,_⟩:=I.list hq
   refine⟨pl.isList.typeIs,fun a e=>?_⟩
   cases e
   obtain⟨o,n,e,c,hd,_⟩:=pl
   exact⟨o,e,hd⟩
  ·refine⟨⟨o,I.gy p o hk,hc⟩,fun a e=>?_⟩
   cases e
   exact⟨o,I.gy _ o hk,hd⟩
  ·have z:∃o,s.heap.get? p=some o∧o.ExactDict:=by
    rcases hk with⟨kvs,hk⟩|⟨kvs,hk⟩
    ·obtain⟨_,_,_,_,o,_,_,e,ex,_⟩:=I.az p _ hk
     exact⟨o,e,ex⟩
    ·obtain⟨_,_,_,_,o,_,_,e,ex,_⟩:=I.az p _ hk
     exact⟨o,e,ex⟩
   obtain⟨o,e,ex⟩:=z
   refine⟨⟨o,e,ex.1⟩,fun a e2=>?_⟩
   cases e2
   exact⟨o,e,ex.2.1⟩
  ·obtain⟨o,_,_,_,e,ex,_⟩:=I.az p _ hk
   refine⟨⟨o,e,ex.1⟩,fun a e2=>?_⟩
   cases e2
   exact⟨o,e,ex.2.1⟩
 |_=>exact False.elim ty
noncomputable def Js(K:PySem.W.Frag)(T:String)(r:V→List V→Hp→VK→Prop)(to:TE):TE:=fun σ H Q=>to σ H fun x H1=>Cg K T x H1∧r x [] H1 Q
noncomputable def pw(K:PySem.W.Frag)(T:String)(r:V→List V→Hp→VK→Prop)(to:TE)(t:TA):TE:=fun σ H Q=>to σ H fun x H1=>Cg K T x H1∧t σ H1 fun xs H2=>r x xs H2 Q
variable {o e:Expr}{es:List Expr}{to:TE}{t:TA}{name:Str}{apos bX:Pos}{T id:String}{r:V→List V→Hp→VK→Prop}
theorem Tc (pa:PlainAttrs T) (slot:Slot T name id) (jN:typeOf (.builtin id)=pure (.type "method_descriptor")) (hm:yr X id r) (ho:PE X o to)
  (om:attributeBase o name X.env (eval o X.env)=eval o X.env:=by rfl) (hline:(apos.endLine==bX.line)=true:=by rfl):PE X (.Call (.Attribute o name apos) [] [] bX) (Js X.K T r to):=by
 intro pins s σ H Q I h
 refine wpAny_Call_method0_late om hline (aC (ho pins s σ H _ I h) fun v s1 ⟨x,H1,I1,r1,ty,q1⟩=>?_)
 obtain⟨h1,h2⟩:=GQ I1 r1 ty
 exact⟨T,id,pa,slot,jN,h1,h2,uj rfl (PySem.evalArgs_none (hm pins s1 σ H1 x [] v [] Q I1 r1 .nil q1))⟩
theorem H0 (pa:PlainAttrs T) (slot:Slot T name id) (jN:typeOf (.builtin id)=pure (.type "method_descriptor")) (hm:yr X id r) (ho:PE X o to) (ha:PA X (e::es) t)
  (om:attributeBase o name X.env (eval o X.env)=eval o X.env:=by rfl)
  (Wv:((backTo bX (starEach (e::es) X.env)).all (fun x=>!x.1)&&(backToKw bX (keywordEach [] X.env)).all (fun x=>x.1.isSome)
   && decide ((e::es).length+([]:List Keyword).length+(if ([]:List Keyword).isEmpty then 0 else 1)<30))=true:=by rfl)
  (hline:(apos.endLine==bX.line)=true:=by rfl) (hs:starEach (e::es) X.env=(false,eval e X.env)::starEach es X.env:=by rfl) (Td:(backTo bX (starEach es X.env)).any (·.1)=false:=by rfl) :
  PE X (.Call (.Attribute o name apos) (e::es) [] bX) (pw X.K T r to t):=by
 intro pins s σ H Q I h
 refine wpAny_Call_method_late om Wv hline rfl (aC (ho pins s σ H _ I h) fun v s1 ⟨x,H1,I1,r1,ty,q1⟩=>?_)
 obtain⟨h1,h2⟩:=GQ I1 r1 ty
 refine⟨T,id,pa,slot,jN,h1,h2,?_⟩
 have hA:=ha bX pins s1 σ H1 _ I1 q1
 rw[hs]at hA ⊢
 refine uj (by show(false||(backTo bX (starEach es X.env)).any (·.1))=false;rw[Td]<;>rfl) (Calls.evalArgs_plain ?_)
 exact aC hA fun us s2 ⟨vs,H2,I2,r2,q2⟩=>hm pins s2 σ H2 x vs v us Q I2 r1 r2 q2
end
def Xs(X:Cx)(id:String)(r:V→List V→Hp→VK→Prop):Prop :=
 ∀(pins:List (Addr×Obj)) (s:Shared) (σ:St) (H:Hp) (x:V) (xs:List V) (v:Value) (us:List Value) (Q:VK),Inv X pins σ H s→RelV x v→Vals xs us→r x xs H Q →
  wpAny (model X.prog X.w) X.A (call (.builtin id) (v::us)) (EP X pins σ Q) X.xe s
theorem Vals.zero{us:List Value}(h:Vals [] us):us=[]:=by cases h;rfl
theorem Vals.one{x:V}{us:List Value}(h:Vals [x] us):∃u,us=[u]∧RelV x u:=by
 cases h with|cons r t=>cases t;exact⟨_,rfl,r⟩
theorem Vals.two{x y:V}{us:List Value}(h:Vals [x,y] us):∃u v,us=[u,v]∧RelV x u∧RelV y v:=by
 cases h with|cons r t=>obtain⟨v,rfl,q⟩:=Vals.one t;exact⟨_,_,rfl,r,q⟩
theorem Vals.dropLast{xs:List V}{us:List Value}(h:Vals xs us):Vals xs.dropLast us.dropLast:=by
 induction h with
 |nil=>exact .nil
 |cons r t ih =>
  cases t with
  |nil=>exact .nil
  |cons q t'=>exact .cons r ih
theorem Vals.rep{xs:List V}{us:List Value}(h:Vals xs us):∀k:Nat,Vals (List.replicate k xs).flatten (List.replicate k us).flatten
 |0=>.nil
 |k+1=>by
  rw[x6,x6,x8,x8]
  exact Vals.append h (Vals.rep h k)
section
variable {X:Cx}{pins:List (Addr×Obj)}{σ:St}{H:Hp}{s:Shared}{l b:Addr}{xs ys zs:List V}
theorem Inv.Ww{its its':List Value}{n:Nat}{f:Array Value→Array Value}{t':Nat}(I:Inv X pins σ H s)(hH:H l=some (.lst xs))
  (e:s.heap.get? l=some { cls:=.type "list",data:=.seq its.toArray n }) (hf:f its.toArray=its'.toArray) (hv:Vals ys its') (hz:ys.length≤sizeLine) :
  Inv X pins σ (upd H l (.lst ys)) { s with heap:=s.heap.update l (Obj.mapSeq f),toks:=t' }:=by
 have q:=PySem.IsL.update e f
 rw[hf]at q
 refine I.write (x:=l) (e:=l) (by rw[hH];exact trivial) (.inl rfl) (fun b' u hb hu=>(Heap.get?_update_other s.heap (Obj.mapSeq f) (jD hb)).trans hu) ⟨_,q⟩ ?_
 exact⟨hz,its',_,hv,q⟩
theorem Inv.Wx{its:List Value}{t':Nat}(I:Inv X pins σ H s)(hv:Vals ys its)(hz:ys.length≤sizeLine) :
  Inv X pins σ (upd H s.heap.objs.size (.lst ys)) { s with heap:=s.heap.push { cls:=.type "list",data:=.seq its.toArray },toks:=t' } :=
 I.laid (fun _ _ q=>cy _ q) (aR _) ⟨hz,its,0,hv,eU _ rfl⟩
theorem Inv.fresh(I:Inv X pins σ H s):H s.heap.objs.size=none:=I.az.fresh (aR _)
theorem Inv.Wy(I:Inv X pins σ H s)(hH:H l=some (.lst xs)):xs.length≤sizeLine∧∃(its:List Value) (n:Nat),Vals xs its∧xs.length=its.length∧s.heap.get? l=some { cls:=.type "list",data:=.seq its.toArray n }:=by
 obtain⟨z,its,n,r,e⟩:=I.az l _ hH
 exact⟨z,its,n,r,r.length,e⟩
end
section
variable {X:Cx}
def su:V→List V→Hp→VK→Prop:=fun x vs H Q=>∃l xs y,x=.ref l∧vs=[y]∧H l=some (.lst xs)∧xs.length<sizeLine∧Q .non (upd H l (.lst (xs++[y])))
theorem EB:Xs X "list.append" su:=by
 intro pins s σ H x vs v us Q I rx rv h
 obtain⟨l,xs,y,rfl,rfl,hH,hz,q⟩:=h
 cases rx
 obtain⟨u,rfl,ru⟩:=rv.one
 obtain⟨z,its,n,r,hl,e⟩:=I.Wy hH
 refine call_meets F.slot_list_append ⟨_,e,rfl⟩ F.entry_list_append (F.args_list_append_2 _ _) (PySem.list_append l its.toArray n u (by rw[fY];omega)) ⟨e,?_⟩
 refine⟨.non,_,I.Ww (its':=its++[u]) hH e (by simp) (r.append (.cons ru .nil)) ?_,rfl,q⟩
 rw[b9,List.length_singleton]
 omega
end
section
variable {prog:Program}{w:World}{A:Around}{E:Value→Shared→Prop}{s:Shared}
end
section
variable {X:Cx}
end
section
variable {κ:Type}[DecidableEq κ]
noncomputable def dH(kvs:List (κ×V))(k:κ):Option V:=(kvs.find? fun kv=>decide (kv.1=k)).map (·.2)
noncomputable def putK(kvs:List (κ×V))(k:κ)(v:V):List (κ×V) :=
 if (kvs.any fun kv=>decide (kv.1=k))=true then kvs.map (fun kv=>if kv.1=k then (kv.1,v)else kv)else kvs++[(k,v)]
noncomputable def Y9(kvs:List (κ×V))(k:κ):List (κ×V):=kvs.filter fun kv=>decide (kv.1≠k)
theorem vG{p:κ×V}{r:List (κ×V)}{k:κ}(e:p.1=k):dH (p::r) k=some p.2:=by simp[dH,List.find?_cons,e]
theorem vH{p:κ×V}{r:List (κ×V)}{k:κ}(e:¬p.1=k):dH (p::r) k=dH r k:=by simp[dH,List.find?_cons,e]
theorem E6(k:κ):∀kvs:List (κ×V),(kvs.any fun kv=>decide (kv.1=k))=(dH kvs k).isSome
 |[]=>rfl
 |p::r=>by
  rw[ui]
  by_cases e:p.1=k
  ·simp only[vG e,decide_eq_true e,Bool.true_or,Option.isSome_some]
  ·rw[vH e,fJ e,Bool.false_or];exact E6 k r
theorem vB(kvs:List (κ×V))(k:κ)(v:V):(putK kvs k v).length≤kvs.length+1:=by
 unfold putK
 split
 ·rw[aU];omega
 ·rw[b9,cz,uk];omega
theorem g6.rZ{o:Option V}{u:Option Value}(r:g6 o u):o.isSome=u.isSome:=by
 cases o with
 |none=>cases u with
  |none=>rfl
  |some _=>exact(show False from r).elim
 |some _=>cases u with
  |none=>exact(show False from r).elim
  |some _=>rfl
theorem g6.getD{o:Option V}{u:Option Value}{d:V}{d':Value}(r:g6 o u)(rd:RelV d d'):RelV (o.getD d) (u.getD d'):=by
 cases o with
 |none=>cases u with
  |none=>exact rd
  |some _=>exact(show False from r).elim
 |some _=>cases u with
  |none=>exact(show False from r).elim
  |some _=>exact r
theorem KV.val{kvs:List (κ×V)}{vs:List (κ×Value)}(r:KV kvs vs)(k:κ):g6 (dH kvs k) (valueAt vs k):=by
 unfold KV at r
 induction r with
 |nil=>exact True.intro
 |@cons p q ps qs h t ih =>
  obtain⟨h1,h2⟩:=h
  by_cases e:p.1=k
  ·have e':q.1=k:=h1.symm.trans e
   have b:valueAt (q::qs) k=some q.2:=by simp[valueAt,List.find?_cons,e']
   rw[vG e,b];exact h2
  ·have e':¬q.1=k:=fun z=>e (h1.trans z)
   have b:valueAt (q::qs) k=valueAt qs k:=by simp[valueAt,List.find?_cons,e']
   rw[vH e,b];exact ih
theorem KV.any{kvs:List (κ×V)}{vs:List (κ×Value)}(r:KV kvs vs)(k:κ):(kvs.any fun kv=>decide (kv.1=k))=vs.any fun kv=>decide (kv.1=k):=by
 unfold KV at r
 induction r with
 |nil=>rfl
 |cons h t ih=>rw[ui,ui,ih,h.1]
theorem KV.repl{kvs:List (κ×V)}{vs:List (κ×Value)}(r:KV kvs vs)(k:κ){y:V}{u:Value}(ry:RelV y u) :
  KV (kvs.map fun kv=>if kv.1=k then (kv.1,y)else kv) (vs.map fun kv=>if kv.1=k then (kv.1,u)else kv):=by
 unfold KV at r ⊢
 induction r with
 |nil=>exact .nil
 |@cons p q ps qs h t ih =>
  rw[bF,bF]
  refine .cons ?_ ih
  obtain⟨h1,h2⟩:=h
  by_cases e:p.1=k
  ·rw[if_pos e,if_pos (h1.symm.trans e)];exact⟨h1,ry⟩
  ·rw[if_neg e,if_neg (fun z=>e (h1.trans z))];exact⟨h1,h2⟩
theorem KV.put{kvs:List (κ×V)}{vs:List (κ×Value)}(r:KV kvs vs)(k:κ){y:V}{u:Value}(ry:RelV y u):KV (putK kvs k y) (stored vs k u):=by
 unfold putK stored
 rw[r.any k]
 by_cases e:(vs.any fun kv=>decide (kv.1=k))=true
 ·rw[if_pos e,if_pos e];exact r.repl k ry
 ·rw[if_neg e,if_neg e];exact Paired.snoc r ⟨rfl,ry⟩
theorem KV.keys{kvs:List (κ×V)}{vs:List (κ×Value)}(r:KV kvs vs):kvs.map (·.1)=vs.map (·.1):=by
 unfold KV at r
 induction r with
 |nil=>rfl
 |cons h t ih=>rw[bF,bF,ih,h.1]
theorem KV.length{kvs:List (κ×V)}{vs:List (κ×Value)}(r:KV kvs vs):kvs.length=vs.length:=cJ r
end
theorem oq{P:Program}{w:World}{k:Key}{u:Value}(r:RelV (kV k) u):(cu P w).is k u=true:=by
 cases k with
 |inl i=>obtain⟨t,e⟩:=(show ∃t,u=Value.int i t from r);subst e;exact MB P w i t
 |inr x=>obtain⟨t,e⟩:=(show ∃t,u=Value.str x t from r);subst e;exact MC P w x t
 |non=>rw[show u=Value.none from r];exact MD P w
theorem EC{P:Program}{w:World}:∀{ks:List Key}{us:List Value},Vals (ks.map kV) us→ItemsAre (cu P w) ks us
 |[],_,r=>by rw[BP]at r;cases r;exact .nil
 |k::ks,_,r=>by
  rw[bF]at r
  cases r with
  |cons h t=>exact .cons (oq h) (EC t)
abbrev KT(H:Hp):List (List Key×V)→List (List Key×Addr×Value)→Prop:=Paired fun p q=>p.1=q.1∧H q.2.1=some (.tup (p.1.map kV))∧RelV p.2 q.2.2
theorem KT.val{H:Hp}{kvs:List (List Key×V)}{xs:List (List Key×Addr×Value)}(r:KT H kvs xs)(k:List Key):g6 (dH kvs k) ((atKey xs k).map (·.2)):=by
 induction r with
 |nil=>exact True.intro
 |@cons p q ps qs h t ih =>
  obtain⟨h1,_,h2⟩:=h
  by_cases e:p.1=k
  ·have e':q.1=k:=h1.symm.trans e
   have b:atKey (q::qs) k=some q.2:=by simp[atKey,List.find?_cons,e']
   rw[vG e,b];exact h2
  ·have e':¬q.1=k:=fun z=>e (h1.trans z)
   have b:atKey (q::qs) k=atKey qs k:=by simp[atKey,List.find?_cons,e']
   rw[vH e,b];exact ih
theorem KT.repl{H:Hp}{kvs:List (List Key×V)}{xs:List (List Key×Addr×Value)}(r:KT H kvs xs)(k:List Key){y:V}{u:Value}(ry:RelV y u) :
  KT H (kvs.map fun kv=>if kv.1=k then (kv.1,y)else kv) (xs.map (putAt k u)):=by
 induction r with
 |nil=>exact .nil
 |@cons p q ps qs h t ih =>
  rw[bF,bF]
  refine .cons ?_ ih
  obtain⟨h1,h2,h3⟩:=h
  unfold putAt
  by_cases e:p.1=k
  ·rw[if_pos e,if_pos (h1.symm.trans e)];exact⟨h1,h2,ry⟩
  ·rw[if_neg e,if_neg (fun z=>e (h1.trans z))];exact⟨h1,h2,h3⟩
theorem KT.put{H:Hp}{kvs:List (List Key×V)}{xs:List (List Key×Addr×Value)}(r:KT H kvs xs)(k:List Key){b:Addr}{y:V}{u:Value}(hb:H b=some (.tup (k.map kV)))(ry:RelV y u) :
  KT H (putK kvs k y) (storedH xs k b u):=by
 have e:(kvs.any fun kv=>decide (kv.1=k))=(atKey xs k).isSome:=by
  rw[E6,(r.val k).rZ,BQ]
 unfold putK storedH
 rw[e]
 by_cases q:(atKey xs k).isSome=true
 ·rw[if_pos q,if_pos q];exact r.repl k ry
 ·rw[if_neg q,if_neg q];exact Paired.snoc r ⟨rfl,hb,ry⟩
theorem KT.keeps{H H':Hp}{kvs:List (List Key×V)}{xs:List (List Key×Addr×Value)}(r:KT H kvs xs)(ht:∀b ys,H b=some (.tup ys)→H' b=some (.tup ys)):KT H' kvs xs :=
 Paired.kh r fun _ _ z=>⟨z.1,ht _ _ z.2.1,z.2.2⟩
section
variable {P:Program}{w:World}{H:Hp}{h:Heap}{a:Addr}
theorem Ia{u:HO}(ok:cj P w H h)(e:Rd H a u):bT P w H h a u:=e.ok ok
theorem iu{kvs:List (Key×V)}(ok:cj P w H h)(e:Rd H a (.dK kvs)):kvs.length≤sizeLine∧(a==sysModules)=false∧∃vs,KV kvs vs∧h.DictOf (cu P w) a vs :=
 show bT P w H h a (.dK kvs)from Ia ok e
theorem Ib{kvs:List (Key×V)}(ok:cj P w H h)(e:H a=some (.dK kvs)):kvs.length≤sizeLine∧(a==sysModules)=false∧∃vs,KV kvs vs∧h.DictOf (cu P w) a vs:=iu ok (.inl e)
theorem p9{ks:List Key}(ok:cj P w H h)(e:H a=some (.tup (ks.map kV))):(tupleKind (cu P w)).is h ks a:=by
 obtain⟨_,its,r,o,h1,h2,_,n,h3⟩:=(show bT P w H h a (.tup (ks.map kV))from ok a _ e)
 exact⟨o,its.toArray,n,h1,h2,h3,by simpa using EC r⟩
theorem ot{kvs:List (List Key×V)}(ok:cj P w H h)(e:Rd H a (.dT kvs)):kvs.length≤sizeLine∧(a==sysModules)=false ∧
  ∃xs,KT H kvs xs∧h.DictOfH (tupleKind (cu P w)) a xs:=by
 obtain⟨z,y,xs,r,o,es,ep,h1,h2,h3,h4,h5⟩:=(show bT P w H h a (.dT kvs)from Ia ok e)
 refine⟨z,y,xs,r,o,es,ep,h1,h2,h3,h4,fun x hx=>?_,h5⟩
 have all:∀{l:List (List Key×V)}{m:List (List Key×Addr×Value)},KT H l m→∀x∈m,(tupleKind (cu P w)).is h x.1 x.2.1:=by
  intro l m q
  induction q with
  |nil=>intro x hx;exact nomatch hx
  |@cons p q ps qs hq t ih =>
   intro x hx
   rcases fK.mp hx with e|hx
   ·subst e
    exact p9 ok (by rw[←hq.1];exact hq.2.1)
   ·exact ih x hx
 exact all r x hx
theorem Vi{kvs:List (List Key×V)}(ok:cj P w H h)(e:H a=some (.dT kvs)):kvs.length≤sizeLine∧(a==sysModules)=false ∧
 ∃xs,KT H kvs xs∧h.DictOfH (tupleKind (cu P w)) a xs:=ot ok (.inl e)
end
def gM(H:Hp)(a:Addr)(y:V)(r:Option V):Prop :=
 (∃kvs k,Rd H a (.dK kvs)∧y=kV k∧r=dH kvs k)∨∃kvs k b,Rd H a (.dT kvs)∧y=.ref b∧H b=some (.tup (k.map kV))∧r=dH kvs k
def qD(H:Hp)(a:Addr)(y v:V)(H':Hp):Prop :=
 (∃kvs k,H a=some (.dK kvs)∧y=kV k∧kvs.length<sizeLine∧H'=upd H a (.dK (putK kvs k v))) ∨
 ∃kvs k b,H a=some (.dT kvs)∧y=.ref b∧H b=some (.tup (k.map kV))∧kvs.length<sizeLine∧H'=upd H a (.dT (putK kvs k v))
theorem gM.k{H:Hp}{a:Addr}{kvs:List (Key×V)}{k:Key}(e:H a=some (.dK kvs)):gM H a (kV k) (dH kvs k):=.inl ⟨kvs,k,.inl e,rfl,rfl⟩
theorem gM.t{H:Hp}{a b:Addr}{kvs:List (List Key×V)}{k:List Key}(e:H a=some (.dT kvs))(eb:H b=some (.tup (k.map kV))):gM H a (.ref b) (dH kvs k):=.inr ⟨kvs,k,b,.inl e,rfl,eb,rfl⟩
theorem qD.k{H:Hp}{a:Addr}{kvs:List (Key×V)}{k:Key}{v:V}(e:H a=some (.dK kvs))(hl:kvs.length<sizeLine):qD H a (kV k) v (upd H a (.dK (putK kvs k v))):=.inl ⟨kvs,k,e,rfl,hl,rfl⟩
theorem qD.t{H:Hp}{a b:Addr}{kvs:List (List Key×V)}{k:List Key}{v:V}(e:H a=some (.dT kvs))(eb:H b=some (.tup (k.map kV)))(hl:kvs.length<sizeLine) :
 qD H a (.ref b) v (upd H a (.dT (putK kvs k v))):=.inr ⟨kvs,k,b,e,rfl,eb,hl,rfl⟩
section
variable {X:Cx}{pins:List (Addr×Obj)}{σ:St}{H:Hp}{s:Shared}{a:Addr}{y v:V}{u r:Value}{o:Option V}{A:Around}{E:Value→Shared→Prop}
theorem Inv.big(I:Inv X pins σ H s):sysModules<s.heap.objs.size:=by
 have h:mainGlobals<s.heap.objs.size:=(I.mod.glob.keeps I.bk).lt
 exact Nat.lt_trans (by decide) h
theorem Ny{Q:Value→Shared→Prop}(hu:A.units+1<cLine)(I:Inv X pins σ H s)(g:gM H a y (some v))(ry:RelV y u)(h:∀w' s',Inv X pins σ H s'→RelV v w'→Q w' s') :
  wpAny (model X.prog X.w) A (getItem (.ref a) u) Q E s:=by
 rcases g with⟨kvs,k,e,ey,l⟩|⟨kvs,k,b,e,ey,eb,l⟩
 ·subst ey
  obtain⟨z,hd,vs,rel,dd⟩:=iu I.az e
  obtain⟨w',hw,gB⟩:=g6.some_of (v:=v) (o:=valueAt vs k) (by rw[l];exact rel.val k)
  exact wpAny_getItem_of (oq ry) dd.mapOf hw (h w' _ (I.tok _) gB)
 ·subst ey
  cases (show u=Value.ref b from ry)
  obtain⟨z,hd,xs,rel,dd⟩:=ot I.az e
  obtain⟨w',hw,gB⟩:=g6.some_of (v:=v) (o:=(atKey xs k).map (·.2)) (by rw[l];exact rel.val k)
  obtain⟨p,hp,yt⟩:=Option.map_eq_some_iff.mp hw
  refine wpAny_getItem_heap (um hu) (p9 I.az eb) dd hp ?_
  rw[yt]
  exact h w' _ (I.tok _) gB
theorem Wz{Q:Value→Shared→Prop}(hu:A.units+1<cLine)(I:Inv X pins σ H s)(g:gM H a y o)(ry:RelV y u)(h:∀s',Inv X pins σ H s'→Q (.bool o.isSome) s') :
  wpAny (model X.prog X.w) A (compareOp .In u (.ref a)) Q E s:=by
 rcases g with⟨kvs,k,e,ey,l⟩|⟨kvs,k,b,e,ey,eb,l⟩
 ·subst ey
  obtain⟨z,hd,vs,rel,dd⟩:=iu I.az e
  refine wpAny_in_of (oq ry) hd dd.mapOf ?_
  rw[←(rel.val k).rZ,←l]
  exact h _ (I.tok _)
 ·subst ey
  cases (show u=Value.ref b from ry)
  obtain⟨z,hd,xs,rel,dd⟩:=ot I.az e
  refine wpAny_in_heap (um hu) (p9 I.az eb) hd dd ?_
  have q:=(rel.val k).rZ
  rw[BQ]at q
  rw[←q,←l]
  exact h _ (I.tok _)
theorem Qw{Q:Value→Shared→Prop}(hu:A.units+1<cLine)(I:Inv X pins σ H s)(g:gM H a y o)(ry:RelV y u)(h:∀s',Inv X pins σ H s'→Q (.bool (!o.isSome)) s') :
  wpAny (model X.prog X.w) A (compareOp .NotIn u (.ref a)) Q E s:=by
 rcases g with⟨kvs,k,e,ey,l⟩|⟨kvs,k,b,e,ey,eb,l⟩
 ·subst ey
  obtain⟨z,hd,vs,rel,dd⟩:=iu I.az e
  refine wpAny_notIn_of (oq ry) hd dd.mapOf ?_
  rw[←(rel.val k).rZ,←l]
  exact h _ (I.tok _)
 ·subst ey
  cases (show u=Value.ref b from ry)
  obtain⟨z,hd,xs,rel,dd⟩:=ot I.az e
  refine wpAny_notIn_heap (um hu) (p9 I.az eb) hd dd ?_
  have q:=(rel.val k).rZ
  rw[BQ]at q
  rw[←q,←l]
  exact h _ (I.tok _)
theorem zO{h':Heap}{t':Nat}{ob:HO}(I:Inv X pins σ H s)(mu:ux (H a))(hs:Heap.SameBut a s.heap h')(he:∃q,h'.get? a=some q)(new:bT X.prog X.w (upd H a ob) h' a ob) :
  Inv X pins σ (upd H a ob) { s with heap:=h',toks:=t' } :=
 I.write (x:=a) (e:=a) mu (.inl rfl) (fun b q hb z=>(hs.2 b hb).trans z) he new
theorem Ab{P:Program}{w:World}{H':Hp}{h':Heap}{kvs:List (Key×V)}{vs:List (Key×Value)}(z:kvs.length≤sizeLine)(hd:(a==sysModules)=false)(rel:KV kvs vs)(dd:h'.DictOf (cu P w) a vs) :
 bT P w H' h' a (.dK kvs):=⟨z,hd,vs,rel,dd⟩
theorem Nz{H':Hp}{Q:Unit→Shared→Prop}(hu:A.units+1<cLine)(I:Inv X pins σ H s)(g:qD H a y v H')(ry:RelV y u)(rv:RelV v r)(h:∀s',Inv X pins σ H' s'→Q () s') :
  wpAny (model X.prog X.w) A (setItem (.ref a) u r) Q E s:=by
 rcases g with⟨kvs,k,e,ey,l,eH⟩|⟨kvs,k,b,e,ey,eb,l,eH⟩
 ·subst ey eH
  obtain⟨z,hd,vs,rel,dd⟩:=Ib I.az e
  have hz:vs.length≤sizeLine:=by rw[←rel.length];exact z
  have hl:(putK kvs k v).length≤sizeLine:=by have:=vB kvs k v;omega
  refine wpAny_setItem_pairs (hsz:=hz) (oq ry) dd fun h' fO hs=>h _ ?_
  have he:∃q,h'.get? a=some q:=let ⟨q,_,_,hq,_⟩:=fO;⟨q,hq⟩
  exact zO I (by rw[e];exact True.intro) hs he (Ab hl hd (rel.put k rv) fO)
 ·subst ey eH
  cases (show u=Value.ref b from ry)
  obtain⟨z,hd,xs,rel,dd⟩:=Vi I.az e
  have hz:xs.length≤sizeLine:=by rw[←cJ rel];exact z
  have hl:(putK kvs k v).length≤sizeLine:=by have:=vB kvs k v;omega
  refine wpAny_setItem_heap (hsz:=hz) (um hu) (p9 I.az eb) dd fun h' fO hs=>h _ ?_
  obtain⟨q,es,ep,hq,h2,h3,h4,_,h5⟩:=fO
  refine zO I (by rw[e];exact True.intro) hs ⟨q,hq⟩ ⟨hl,hd,_,(rel.put k eb rv).keeps fun c ys ec=>?_,q,es,ep,hq,h2,h3,h4,h5⟩
  rw[ay (lF ec e (fun z=>nomatch z))]
  exact ec
end
section
variable {X:Cx}{pins:List (Addr×Obj)}{σ:St}{H:Hp}{s:Shared}{a:Addr}{kvs:List (Key×V)}{k:Key}{u:Value}{A:Around}{E:Value→Shared→Prop}
end
def A1(i:Expr):Prop:=∀ov iv,subscripted i false ov iv=operate [ov,iv] (getItem ov iv)
theorem Qx{prog:Program}{w:World}{A:Around}{E:Value→Shared→Prop}{s:Shared}{env:Env}{value slice:Expr}{pos:Pos}{T id:String}{Q:Value→Shared→Prop}
  (hl:typeLookup (.type T) "__getitem__" = pure (some (.builtin id))) (hs:A1 slice)
  (h:wpAny (model prog w) A (eval value env) (fun o s₁=>wpAny (model prog w) A (eval slice env) (fun i s₂=>s₂.TypeIs o T∧wpAny (model prog w) A (getItem o i) Q E s₂) E s₁) E s) :
  wpAny (model prog w) A (eval (.Subscript value slice pos) env) Q E s:=by
 refine Subscript_ (fA h (fun o s₁ h₁=>fA h₁ (fun i s₂ h₂=>?_) fun _ _ x=>x) fun _ _ x=>x)
 obtain⟨hT,h₂⟩:=h₂
 unfold subscriptTail
 refine av ?_
 rw[getitemInPython_of_ne hT.not_modules]
 refine av (Bv hT hl ?_)
 have fin:wpAny (model prog w) A (subscripted slice false o i) (fun r s₃=>wpAny (model prog w) A (letTemporaryGo value o r >>= fun _=>pure r) Q E s₃) E s₂:=by
  rw[hs o i]
  exact wpAny_operating (fA h₂ (fun r s₃ h₃=>av (wpAny_letTemporaryGo (aO h₃))) fun _ _ x=>x)
 first
  |exact aO (av fin)
  |exact av (aO (av fin))
  |exact av fin
theorem MF{X:Cx}{pins:List (Addr×Obj)}{σ:St}{H:Hp}{s:Shared}{a:Addr}{y:V}{o:Option V}(I:Inv X pins σ H s)(g:gM H a y o):s.TypeIs (.ref a) "dict" := by
 rcases g with⟨kvs,k,e,_,_⟩|⟨kvs,k,b,e,_,_,_⟩
 ·obtain⟨_,_,vs,_,dd⟩:=iu I.az e
  exact dd.typeIs
 ·obtain⟨_,_,xs,_,dd⟩:=ot I.az e
  exact dd.typeIs
noncomputable def Ic(td ty:TE):TE:=fun σ H Q=>td σ H fun x H1=>ty σ H1 fun y H2=>∃a v,x=.ref a∧gM H2 a y (some v)∧Q v H2
noncomputable def A2(ty td:TE):TE:=fun σ H Q=>ty σ H fun y H1=>td σ H1 fun x H2=>∃a o,x=.ref a∧gM H2 a y o∧Q (.bl o.isSome) H2
noncomputable def zP(ty td:TE):TE:=fun σ H Q=>ty σ H fun y H1=>td σ H1 fun x H2=>∃a o,x=.ref a∧gM H2 a y o∧Q (.bl (!o.isSome)) H2
noncomputable def wJ(td ty tv:TE):TS:=fun D σ H=>tv σ H fun v H1=>td σ H1 fun x H2=>ty σ H2 fun y H3=>∃a H4,x=.ref a∧qD H3 a y v H4∧D.nx σ H4
section
variable {X:Cx}{o i e value:Expr}{pos pos' Wr:Pos}{td ty tv:TE}
theorem Qy(hu:X.A.units+1<cLine)(ho:PE X o td)(hi:PE X i ty)(hs:A1 i):PE X (.Subscript o i pos) (Ic td ty):=by
 intro pins s σ H Q I h
 refine Qx PySem.F.slot_dict_getitem.lookup hs (aC (ho pins s σ H _ I h) fun u s1 ⟨x,H1,I1,rx,q1⟩=>aC (hi pins s1 σ H1 _ I1 q1) fun iv s2 ⟨y,H2,I2,ry,a,v,ex,g,q2⟩=>?_)
 subst ex
 obtain rfl:u=Value.ref a:=rx
 exact⟨MF I2 g,Ny hu I2 g ry fun w' s3 I3 gB=>⟨v,H2,I3,gB,q2⟩⟩
theorem GR(hu:X.A.units+1<cLine)(hi:PE X i ty)(ho:PE X o td):PC X .In i o (A2 ty td):=by
 intro pins s σ H Q I h
 refine aC (hi pins s σ H _ I h) fun iv s1 ⟨y,H1,I1,ry,q1⟩=>aC (ho pins s1 σ H1 _ I1 q1) fun u s2 ⟨x,H2,I2,rx,a,ov,ex,g,q2⟩=>?_
 subst ex
 obtain rfl:u=Value.ref a:=rx
 exact Wz hu I2 g ry fun s3 I3=>⟨.bl ov.isSome,H2,I3,rfl,q2⟩
theorem ED(hu:X.A.units+1<cLine)(hi:PE X i ty)(ho:PE X o td):PC X .NotIn i o (zP ty td):=by
 intro pins s σ H Q I h
 refine aC (hi pins s σ H _ I h) fun iv s1 ⟨y,H1,I1,ry,q1⟩=>aC (ho pins s1 σ H1 _ I1 q1) fun u s2 ⟨x,H2,I2,rx,a,ov,ex,g,q2⟩=>?_
 subst ex
 obtain rfl:u=Value.ref a:=rx
 exact Qw hu I2 g ry fun s3 I3=>⟨.bl (!ov.isSome),H2,I3,rfl,q2⟩
theorem Qz(hu:X.A.units+1<cLine)(ho:PE X o td)(hi:PE X i ty)(hv:PE X value tv)(hs:swapsWith value (some (.Subscript o i pos')) pos.line X.env=pure false) :
  PS X (.Assign [.Subscript o i pos'] value pos) (wJ td ty tv):=by
 intro pins s σ H D I h
 refine wpAny_Assign_Subscript (aC (hv pins s σ H _ I h) fun r s1 ⟨v,H1,I1,rv,q1⟩=>aC (ho pins s1 σ H1 _ I1 q1) fun u s2 ⟨x,H2,I2,rx,q2⟩=>aC (hi pins s2 σ H2 _ I2 q2) fun iv s3 ⟨y,H3,I3,ry,a,H4,ex,g,q3⟩=>?_) hs
 subst ex
 obtain rfl:u=Value.ref a:=rx
 exact Nz hu I3 g ry rv fun s4 I4=>⟨σ,H4,I4,q3⟩
end
theorem E7{P:Program}{w:World}{H:Hp}(h:Heap)(hb:sysModules<h.objs.size):bT P w H (h.push { cls:=.type "dict",data:=.dict #[] }) h.objs.size (.dK []) :=
 ⟨oW _,beq_eq_false_iff_ne.mpr (jD (cK hb)),[],.nil,Heap.DictOf.new h⟩
noncomputable def GU:TE:=fun _ H Q=>∀p,H p=none→Q (.ref p) (upd H p (.dK []))
section
variable {X:Cx}{pos:Pos}
theorem OV:PE X (.Dict [] [] pos) GU:=fun pins s σ H Q I h =>
 wpAny_Dict_empty ⟨.ref s.heap.objs.size,_,I.laid (a:=s.heap.objs.size) (o:=.dK []) (t':=s.toks) (fun _ _ q=>cy _ q) (aR _) (E7 s.heap I.big),rfl,h _ (I.az.fresh (aR _))⟩
end
noncomputable def wa:List (TE×TE)→St→Hp→(List (V×V)→Hp→Prop)→Prop
 |[],_,H,Q=>Q [] H
 | (tk,tv)::r,σ,H,Q=>tk σ H fun x H1=>tv σ H1 fun y H2=>wa r σ H2 fun ps H3=>Q ((x,y)::ps) H3
abbrev VV:List (V×V)→List (Value×Value)→Prop:=Paired fun p q=>RelV p.1 q.1∧RelV p.2 q.2
def uJ(X:Cx)(pos:Pos)(keys:List (Option Expr))(values:List Expr)(kY:List (TE×TE)):Prop :=
 ∀(pins:List (Addr×Obj)) (s:Shared) (σ:St) (H:Hp) (Q:List (V×V)→Hp→Prop),Inv X pins σ H s→wa kY σ H Q →
  wpAny (model X.prog X.w) X.A (evalPairs (pairTrees keys values X.env pos)) (fun vs s'=>∃ps H',Inv X pins σ H' s'∧VV ps vs∧Q ps H') X.xe s
theorem QB{X:Cx}{pos:Pos}:uJ X pos [] [] []:=fun pins s σ H Q I h=>pairTrees_nil_walk ⟨[],H,I,.nil,h⟩
theorem OW{X:Cx}{pos:Pos}{k v:Expr}{ks:List (Option Expr)}{vs:List Expr}{tk tv:TE}{kY:List (TE×TE)}(hk:PE X k tk)(hv:PE X v tv)(hr:uJ X pos ks vs kY) :
  uJ X pos (some k::ks) (v::vs) ((tk,tv)::kY):=fun pins s σ H Q I h =>
 pairTrees_cons_walk (aC (hk pins s σ H _ I h) fun u s1 ⟨x,H1,I1,rx,q1⟩=>aC (hv pins s1 σ H1 _ I1 q1) fun w2 s2 ⟨y,H2,I2,ry,q2⟩ =>
  aC (hr pins s2 σ H2 _ I2 q2) fun ws s3 ⟨ps,H3,I3,rel,q3⟩=>⟨(x,y)::ps,H3,I3,.cons ⟨rx,ry⟩ rel,q3⟩)
noncomputable def i9(kvs more:List (Key×V)):List (Key×V):=more.foldl (fun acc kv=>putK acc kv.1 kv.2) kvs
theorem KV.merge:∀{more:List (Key×V)}{rs:List (Key×Value)}{kvs:List (Key×V)}{vs:List (Key×Value)},KV more rs→KV kvs vs→KV (i9 kvs more) (merged vs rs):=by
 intro more rs kvs vs r
 unfold KV at r
 induction r generalizing kvs vs with
 |nil=>intro q;exact q
 |@cons p q ps qs h t ih =>
  intro r0
  have e:KV (putK kvs p.1 p.2) (stored vs q.1 q.2):=by
   have:=r0.put p.1 h.2
   rw[←h.1];exact this
  exact ih e
theorem DS:∀(more kvs:List (Key×V)),(i9 kvs more).length≤kvs.length+more.length
 |[],kvs=>by show kvs.length≤kvs.length+0;omega
 |p::r,kvs=>by
  have h1:=DS r (putK kvs p.1 p.2)
  have h2:=vB kvs p.1 p.2
  show(i9 (putK kvs p.1 p.2) r).length≤_
  rw[cz];omega
theorem Ee{P:Program}{w:World}:∀{kvs:List (Key×V)}{ws:List (Value×Value)},VV (kvs.map fun kv=>(kV kv.1,kv.2)) ws→∃rs,Carries (cu P w) ws rs∧KV kvs rs
 |[],_,r=>by rw[BP]at r;cases r;exact⟨[],True.intro,.nil⟩
 |p::kvs,_,r=>by
  rw[bF]at r
  cases r with
  |@cons a b as bs h t =>
   obtain⟨rs,c,q⟩:=Ee (P:=P) (w:=w) t
   obtain⟨b1,b2⟩:=b
   exact⟨(p.1,b2)::rs,⟨oq h.1,rfl,c⟩,.cons ⟨rfl,h.2⟩ q⟩
noncomputable def Ie(kY:List (TE×TE)):TE:=fun σ H Q=>∀p,H p=none→wa kY σ (upd H p (.dK [])) fun ps H2=>H2 p=some (.dK [])∧∃kvs:List (Key×V),ps=kvs.map (fun kv=>(kV kv.1,kv.2))∧kvs.length≤15∧Q (.ref p) (upd H2 p (.dK (i9 [] kvs)))
theorem QC{X:Cx}{pos:Pos}{keys:List (Option Expr)}{values:List Expr}{kY:List (TE×TE)}(h:uJ X pos keys values kY)(A3:keys.all (·.isSome)=true)(hl:keys.length=values.length)(h0:keys≠[])
  (Xt:keys.length≤15):PE X (.Dict keys values pos) (Ie kY):=by
 intro pins s σ H Q I q
 have hn:=I.az.fresh (aR s.heap.objs.size)
 have I1:=I.laid (a:=s.heap.objs.size) (o:=.dK []) (h':=s.heap.push { cls:=.type "dict",data:=.dict #[] }) (t':=s.toks) (fun _ _ q=>cy _ q) (aR _) (E7 s.heap I.big)
 refine wpAny_Dict_walk (knd:=cu X.prog X.w) A3 hl h0 Xt (aC (h pins _ σ _ _ I1 (q _ hn)) fun ws s2 ⟨ps,H2,I2,rel,e,kvs,ep,lk,q2⟩=>?_)
 subst ep
 obtain⟨rs,c,rk⟩:=Ee (P:=X.prog) (w:=X.w) rel
 obtain⟨z,hd,Zj,r0,dd⟩:=Ib I2.az e
 cases r0
 refine⟨rs,c,dd,fun h' fO hs=>⟨.ref s.heap.objs.size,_,?_,rfl,q2⟩⟩
 have hz:(i9 [] kvs).length≤sizeLine:=by
  have h1:=DS kvs []
  rw[uk]at h1
  rw[xY];omega
 have he:∃q,h'.get? s.heap.objs.size=some q:=let ⟨q,_,_,hq,_⟩:=fO;⟨q,hq⟩
 exact zO I2 (by rw[e];exact True.intro) hs he (Ab hz hd (rk.merge .nil) fO)
structure M1 (X:Cx)(o:Expr)(m:Str)(apos:Pos)(e:Expr)(bX:Pos):Prop where
 base:attributeBase o m X.env (eval o X.env)=eval o X.env
 few:((backTo bX (starEach [e] X.env)).all (fun x=>!x.1)&&(backToKw bX (keywordEach [] X.env)).all (fun x=>x.1.isSome)
  && decide (([e]:List Expr).length+([]:List Keyword).length+(if ([]:List Keyword).isEmpty then 0 else 1)<30))=true
 line:(apos.endLine==bX.line)=true
 trees:backTo bX (starEach [e] X.env)=[(false,eval e X.env)]
structure M2 (X:Cx)(o:Expr)(m:Str)(apos:Pos)(e f:Expr)(bX:Pos):Prop where
 base:attributeBase o m X.env (eval o X.env)=eval o X.env
 few:((backTo bX (starEach [e,f] X.env)).all (fun x=>!x.1)&&(backToKw bX (keywordEach [] X.env)).all (fun x=>x.1.isSome)
  && decide (([e,f]:List Expr).length+([]:List Keyword).length+(if ([]:List Keyword).isEmpty then 0 else 1)<30))=true
 line:(apos.endLine==bX.line)=true
 trees:backTo bX (starEach [e,f] X.env)=[(false,eval e X.env),(false,eval f X.env)]
def Ci(H:Hp)(a:Addr):Prop:=(∃kvs,Rd H a (.dK kvs))∨∃kvs,Rd H a (.dT kvs)
theorem Te{X:Cx}{pins:List (Addr×Obj)}{σ:St}{H:Hp}{s:Shared}{a:Addr}(I:Inv X pins σ H s)(d:Ci H a) :
  s.TypeIs (.ref a) "dict" ∧ (∀b,Value.ref a=.ref b→∃ob,s.heap.get? b=some ob∧ob.dict=none)∧(a==sysModules)=false:=by
 rcases d with⟨kvs,e⟩|⟨kvs,e⟩
 ·obtain⟨_,hd,vs,_,dd⟩:=iu I.az e
  refine⟨dd.typeIs,fun b q=>?_,hd⟩
  cases q
  obtain⟨ob,_,_,h1,h2,_⟩:=dd
  exact⟨ob,h1,h2.2.1⟩
 ·obtain⟨_,hd,xs,_,dd⟩:=ot I.az e
  refine⟨dd.typeIs,fun b q=>?_,hd⟩
  cases q
  obtain⟨ob,_,_,h1,h2,_⟩:=dd
  exact⟨ob,h1,h2.2.1⟩
section
variable {X:Cx}{pins:List (Addr×Obj)}{σ:St}{H:Hp}{s:Shared}{a:Addr}{y d:V}{u r:Value}{o:Option V}{A:Around}{E:Value→Shared→Prop}
theorem Tf{Q:Value→Shared→Prop}(hu:A.units+1<cLine)(I:Inv X pins σ H s)(g:gM H a y o)(ry:RelV y u)(rd:RelV d r)(h:∀w' s',Inv X pins σ H s'→RelV (o.getD d) w'→Q w' s') :
  wpAny (model X.prog X.w) A (call (.builtin "dict.get") [.ref a,u,r]) Q E s:=by
 rcases g with⟨kvs,k,e,ey,l⟩|⟨kvs,k,b,e,ey,eb,l⟩
 ·subst ey
  obtain⟨z,hd,vs,rel,dd⟩:=iu I.az e
  refine qT BR dd.typeIs J9 (Ka _ _ _) (meets_dict_get_default (cu X.prog X.w) a (oq ry) hd r) ⟨_,dd.mapOf,h _ _ (I.tok _) ?_⟩
  rw[l]
  exact(rel.val k).getD rd
 ·subst ey
  cases (show u=Value.ref b from ry)
  obtain⟨z,hd,xs,rel,dd⟩:=ot I.az e
  refine qT BR dd.typeIs J9 (Ka _ _ _) (meetsH_dict_get_default (tupleKind (cu X.prog X.w)) a b hd r) ⟨um hu,k,xs,p9 I.az eb,dd,h _ _ (I.tok _) ?_⟩
  rw[l]
  exact(rel.val k).getD rd
end
noncomputable def GW(td ty tx:TE):TE:=fun σ H Q=>td σ H fun x H1=>∃a,x=.ref a∧Ci H1 a∧ty σ H1 fun y H2=>tx σ H2 fun z H3=>∃o,gM H3 a y o∧Q (o.getD z) H3
section
variable {X:Cx}{o e f:Expr}{apos bX:Pos}{td ty tx:TE}
theorem OX (hu:X.A.units+1<cLine) (ho:PE X o td) (he:PE X e ty) (hf:PE X f tx) (m:M2 X o "get" apos e f bX):PE X (.Call (.Attribute o "get" apos) [e,f] [] bX) (GW td ty tx):=by
 intro pins s σ H Q I h
 refine wpAny_Call_method m.base m.few m.line BU BR PySem.F.type_dict_get (aC (ho pins s σ H _ I h) fun u s1 ⟨x,H1,I1,rx,a,ex,d,q1⟩=>?_)
 subst ex
 obtain rfl:u=Value.ref a:=rx
 obtain⟨t1,t2,_⟩:=Te I1 d
 refine⟨t1,t2,?_⟩
 rw[m.trees]
 refine uj rfl (Calls.evalArgs_plain (xZ (aC (he pins s1 σ H1 _ I1 q1) fun iv s2 ⟨y,H2,I2,ry,q2⟩ =>
  xZ (aC (hf pins s2 σ H2 _ I2 q2) fun fv s3 ⟨z,H3,I3,rz,ov,g,q3⟩=>Calls.spliced_nil ?_))))
 exact Tf hu I3 g ry rz fun w' s4 I4 gB=>⟨_,H3,I4,gB,q3⟩
end
section
variable {X:Cx}{pins:List (Addr×Obj)}{σ:St}{H:Hp}{s:Shared}{a:Addr}{kvs:List (Key×V)}{A:Around}{E:Value→Shared→Prop}
theorem OY{Q:Value→Shared→Prop}(I:Inv X pins σ H s)(e:Rd H a (.dK kvs))(h:∀p s',H p=none→Inv X pins σ (upd H p (.dK kvs)) s'→Q (.ref p) s'):wpAny (model X.prog X.w) A (call (.type "dict") [.ref a]) Q E s:=by
 obtain⟨z,hd,vs,rel,dd⟩:=iu I.az e
 refine kt_call_dict hd dd (by rw[←rel.length];exact z) fun h' fO hs=>?_
 refine h _ _ (I.az.fresh (aR _)) (I.laid (a:=s.heap.objs.size) (o:=.dK kvs) (t':=s.toks) (fun b q hq=>?_) (aR _) (Ab z (beq_eq_false_iff_ne.mpr (jD (cK I.big))) rel fO))
 exact(hs.2 b (cK (bz hq))).trans (cy _ hq)
end
section
variable {X:Cx}{pins:List (Addr×Obj)}{σ:St}{H:Hp}{s:Shared}{a:Addr}{y:V}{u:Value}{A:Around}{E:Value→Shared→Prop}
end
end L2
namespace Ku
open PySem PySem.W PySem.Calls PyProof.Rows
theorem Mr{P:Params}{h:Heap}:∀(ns:List Int) (vs:List Value),WellAll P h vs (ns.map WData.int)→IntsAre vs ns:=by
 intro ns
 induction ns with
 |nil =>
  intro vs w
  rw[BP]at w
  cases w
  exact .nil
 |cons n ns ih =>
  intro vs w
  rw[bF]at w
  cases w with
  |cons a b =>
   cases a
   exact .cons _ _ (ih _ b)
theorem NB{l:OpenLaw}{n:Nat}(hn:l.most=some n){P:Params}{h:Heap}{args:List WData}{vals:List Value}
  (xv:l.row.toRowW.claim.pre args=true) (Cj:WellAll P h vals args) :
  ∃a vs ns,vals=[Value.ref a]∧args=[WData.list (ns.map WData.int)]∧h.get? a=some { cls:=.type "list",data:=.seq vs.toArray }∧IntsAre vs ns∧ns.length≤n:=by
 have Xu:WShape.hasAll [] args [.list .int]=true:=(pre_splitW xv).1
 have hc:l.pre.holds [] { args:=args }=true:=(pre_splitW xv).2
 obtain⟨d,r,rfl,h1,h2⟩:=hasAllW_cons Xu
 obtain rfl:=hasAllW_nil h2
 obtain⟨xs,rfl,h3⟩:=hasW_list h1
 obtain⟨ns,rfl⟩:=items_int h3
 have hlen:ns.length≤n:=by
  unfold OpenLaw.pre at hc
  have h4:(WTm.not (.lt (.lit (.int (n:Int))) (.len (.arg 0)))).holds [] { args:=[.list (ns.map .int)] }=true:=by
   have h4:=(holds_andW hc).1
   rw[hn]at h4
   exact h4
  have h5:=condW_of h4 (w_not (w_lt w_lit (w_len_list (w_arg rfl))))
  rw[aU]at h5
  refine Nat.le_of_not_lt fun q=>?_
  have q':(n:Int)<((ns.length:Nat):Int):=by omega
  first
   | (rw[fL q']at h5;exact absurd h5 (by decide))
   | (simp at h5;omega)
 cases Cj with
 |cons w1 w2 =>
  cases w2
  cases w1 with
  |list ho A3=>exact⟨_,_,ns,rfl,rfl,ho,Mr ns _ A3,hlen⟩
theorem NC(l:OpenLaw)(args:List WData):l.row.toRowW.claim.post args (.bool true) args=true :=
 postW_of (r:=l.row.toRowW) (X:=(true==true))
  (show WShape.has [] (.bool true) .bool=true by first|rfl|decide|simp[WShape.has,WShape.arms,WShape.armsAll])
  (show(WTm.eq .res (.lit (.bool true))).value [] { args:=args,res:=some (.bool true),after:=args }=some (.bool (true==true))from w_eq_bool (w_res rfl) w_lit) rfl
theorem MG{l:OpenLaw}{n:Nat}{q:Program}{loose:List Str}{XP:(Str→Option Value)→Heap→Prop}{YP:World→Heap→Prop}{d:DefRec}
  (hn:l.most=some n) (uK:d.params.defaults=[])
  (call:∀(w:World) (s₀ s₁:Shared) (mg mb:Str→Option Value) (fa:Addr) (o:Obj) (pm cd doc:Value) (a:Addr) (vs:List Value) (ns:List Int),
   Ground q loose [] XP w s₀ mg mb s₁.heap→YP w s₁.heap →
   s₁.heap.get? fa=some o→o.data=.func (docDef d.name d.params d.body d.scope pm cd doc)→s₁.heap.CodeRec cd d.name→mg d.name=some (.ref fa) →
   s₁.heap.get? a=some { cls:=.type "list",data:=.seq vs.toArray }→IntsAre vs ns→ns.length≤n→s₁.gens=#[] →
   codeAny (model l.prog w) callerA (.call (.ref fa) ⟨[.ref a],[]⟩) (fun r s'=>r=.ok (.ret (.bool true))∧OldK s₁.heap s'.heap∧s'.os=s₁.os∧AllBare s'.gens) s₁) :
  WalkO q loose XP YP l.row.toRowW d [] (fun f vs=>PySem.call f vs):=by
 intro w s₀ s₁ mg mb G Y fa o pm cd doc dV kV ho hd dM hD Ck hg args vals as xv hlay Zk Cj Zm
 obtain rfl:dV=.none:=Dflts.none hD uK
 obtain rfl:kV=.none:=Dflts.noKw hD
 obtain⟨a,vs,ns,rfl,rfl,A4,hints,hlen⟩:=NB hn xv Cj
 refine enter_call (codeAny_mono (call w s₀ s₁ mg mb fa o pm cd doc a vs ns G Y ho (fd_plain hd) dM Ck A4 hints hlen hg) fun r s' hq=>?_)
 obtain⟨rfl,h2,h3,h4⟩:=hq
 exact⟨.inl ⟨.bool true,.bool true,[],rfl,fun _=>rfl,.bool true,NC l _,fun _=>⟨List.Pairwise.nil,fun _ hm=>(nomatch hm)⟩⟩,h2,h3,h4⟩
section
variable {prog:Program}{w:World}{A:Around}{E:Value→Shared→Prop}{s:Shared}{K:Frag}
end
end Ku
namespace L2
open PySem PySem.Spec PyProof.Rows
theorem n9:∀{vs:List Value}{ns:List Int},IntsAre vs ns→Vals (ns.map V.int) vs
 |_,_,.nil=>.nil
 |_,_,.cons n t h=>.cons ⟨t,rfl⟩ (n9 h)
def Only(H:Hp):Prop:=∀b,H b=none∨∃o xs,H b=some (.aK o (.lst xs))
theorem OZ{P:Program}{w:World}{K:PySem.W.Frag}{mg mb:Str→Option Value}{CX:iR}{k:Nat}{fa a:Addr}{fd:FuncData}{x:Str}{sp:Sp}{s₁:Shared}{vs:List Value}{ns:List Int}
  (KX:K.In s₁.heap) (rq:s₁.heap.Ns mainGlobals mg) (hb:s₁.heap.Ns builtinsNs mb) (Xv:∀x:Str,x ≠ "__name__" → mb x=bootBuiltins x) (WB:s₁.heap.NoLimit) (hg:s₁.gens=#[])
  (ha:s₁.heap.get? a=some { cls:=.type "list",data:=.seq vs.toArray }) (hi:IntsAre vs ns) (hl:ns.length≤sizeLine) (hr:dw k callerA)
  (F:∀base:Heap,K.In base→base.Ns mainGlobals mg→ku P w K mg base CX k fa fd [x] sp) (Vj:∀(s:Shared) (u:Value),BindsTo s fd ⟨[u],[]⟩ [(x,u)])
  (jJ:∀H:Hp,Only H→bw K H a (ns.map V.int)→sp [.ref a] H (fun v _=>v=.bl true) fun _ _ _=>False)
  (Cm:∀H e s',CX [] H s₁ (fun _ _ _=>False) e s'→False) :
  codeAny (model P w) callerA (.call (.ref fa) ⟨[.ref a],[]⟩) (fun r s'=>r=.ok (.ret (.bool true))∧OldK s₁.heap s'.heap∧s'.os=s₁.os∧AllBare s'.gens) s₁:=by
 have rv:=n9 hi
 have WC:=hi.length
 have core:∀H:Hp,Only H→bw K H a (ns.map V.int)→cj P w H s₁.heap→(∀b,H b≠none→b=a)→(H a≠none→K.lookup a=none) →
   codeAny (model P w) callerA (.call (.ref fa) ⟨[.ref a],[]⟩) (fun r s'=>r=.ok (.ret (.bool true))∧OldK s₁.heap s'.heap∧s'.os=s₁.os∧AllBare s'.gens) s₁:=by
  intro H hO hS az hA hK
  have FY:∀{b:Addr}{o:Obj},s₁.heap.get? b=some o→H b=none→(kj s₁.heap H).get? b=some o:=fun e n=>Oy e n
  have uH:∀{b:Addr}{o:Obj}{es:Array DictEntry}{ep:Nat},s₁.heap.get? b=some o→o.data=.dict es ep→H b=none:=fun {b o es ep} e d=>by
   cases q:H b with
   |none=>rfl
   |some u =>
    have e':b=a:=hA b (by rw[q];simp)
    subst e'
    rw[ha]at e;cases e
    have d':Data.seq vs.toArray _=Data.dict es ep:=d
    cases d'
  have yu:∀{b:Addr}{m:Str→Option Value},s₁.heap.Ns b m→(kj s₁.heap H).Ns b m:=fun {b m} ⟨o,es,ep,e,d,r⟩=>⟨o,es,ep,FY e (uH e d),d,r⟩
  have Kv:K.In (kj s₁.heap H):=fun b o e=>FY (KX b o e) (by
   cases q:H b with
   |none=>rfl
   |some u =>
    have e':b=a:=hA b (by rw[q];simp)
    subst e'
    rw[hK (by rw[q];simp)]at e;cases e)
  have hM:Mod K mg (kj s₁.heap H):=⟨Kv,yu rq,⟨mb,yu hb,Xv⟩,let ⟨mc,h1,h2⟩:=WB;⟨mc,yu h1,h2⟩⟩
  have e0:xu P w K mg (kj s₁.heap H) callerA [] s₁ H:=⟨rfl,hM,fun b o e=>Qc e,qU (Nq _ _),trivial,fun b hb=>absurd (show b∈([]:List Addr)from hb) (by simp),az,.of_eq hg⟩
  refine codeAny_mono ((F _ Kv (yu rq)).run callerA [] s₁ H ⟨[.ref a],[]⟩ [.ref a] [.ref a] _ _ hr e0 (Vj s₁ (.ref a)) (.cons rfl .nil) (jJ H hO hS)) fun r s' h=>?_
  cases r with
  |error e=>exact(Cm H e s' h).elim
  |ok fl =>
   cases fl with
   |next=>exact False.elim h
   |brk=>exact False.elim h
   |cont=>exact False.elim h
   |ret u =>
    obtain⟨v,H',os,bare,un,WD,r',q⟩:=h
    have q':v=.bl true:=q
    subst q'
    obtain rfl:u=Value.bool true:=r'
    refine⟨rfl,OldK.of_keep fun b o e=>?_,os,bare⟩
    cases q:H b with
    |none=>exact un.keep b o e q (by intro z;exact absurd (show b∈([]:List Addr)from z) (by simp)) (by simp)
    |some u =>
     rcases hO b with z|⟨ob,xs,z⟩
     ·rw[q]at z;cases z
     ·have z2:=un.fV b ob _ z
      obtain⟨e1,_⟩:=az b _ z
      obtain⟨e2,_⟩:=WD b _ z2
      rw[e]at e1;cases e1
      exact e2
 cases hk:K.lookup a with
 |some o =>
  have e:=KX a o hk
  rw[ha]at e
  cases e
  refine core (fun _=>none) (fun _=>.inl rfl) (.inr ⟨_,vs.toArray,_,hk,rfl,rfl,rfl,by rw[fY,WC];exact hl,by simpa using rv⟩) (fun b u z=>by have z':(none:Option HO)=some u:=z;cases z') (fun b z=>absurd rfl z) fun z=>absurd rfl z
 |none =>
  refine core (fun b=>if b=a then some (.aK { cls:=.type "list",data:=.seq vs.toArray } (.lst (ns.map V.int)))else none) (fun b=>?_) (.inl (.inr ⟨{ cls:=.type "list",data:=.seq vs.toArray },if_pos rfl⟩)) (fun b u z=>?_) (fun b z=>?_) fun _=>hk
  ·by_cases hb:b=a
   ·exact .inr ⟨_,_,if_pos hb⟩
   ·exact .inl (if_neg hb)
  ·by_cases hb:b=a
   ·have z':=(if_pos hb).symm.trans z
    cases z'
    subst hb
    exact⟨ha,by rw[aU];exact hl,vs,_,rv,ha⟩
   ·have z':=(if_neg hb).symm.trans z
    cases z'
  ·by_cases hb:b=a
   ·exact hb
   ·exact absurd (if_neg hb) z
theorem QD{l:PySem.W.OpenLaw}{n k:Nat}{q:Program}{loose:List Str}{XP:(Str→Option Value)→Heap→Prop}{YP:World→Heap→Prop}{d:DefRec}{K:Params→PySem.W.Frag}{CX:World→iR}{sp:World→Sp}{x:Str}
  (hn:l.most=some n) (Xw:n≤sizeLine) (uK:d.params.defaults=[]) (hr:dw k callerA)
  (hY:∀(w:World) (h:Heap),YP w h→(K w.params).In h)
  (F:∀(w:World) (mg:Str→Option Value) (fa:Addr) (h:Heap),(K w.params).In h→h.Ns mainGlobals mg→mg d.name=some (.ref fa) →
   ∃fd:FuncData,(∀(s:Shared) (u:Value),BindsTo s fd ⟨[u],[]⟩ [(x,u)]) ∧
    ∀base:Heap,(K w.params).In base→base.Ns mainGlobals mg→ku l.prog w (K w.params) mg base (CX w) k fa fd [x] (sp w))
  (jJ:∀(w:World) (H:Hp) (a:Addr) (ns:List Int),ns.length≤n→Only H→bw (K w.params) H a (ns.map V.int)→sp w [.ref a] H (fun v _=>v=.bl true) fun _ _ _=>False)
  (Cm:∀(w:World) (H:Hp) (s:Shared) (e:Value) (s':Shared),CX w [] H s (fun _ _ _=>False) e s'→False) :
  PySem.W.WalkO q loose XP YP l.row.toRowW d [] (fun f vs=>PySem.call f vs):=by
 refine Ku.MG hn uK fun w s₀ s₁ mg mb fa o pm cd doc a vs ns G Y ho hd dM Ck A4 hints hlen hg=>?_
 have KX:=hY w _ Y
 obtain⟨fd,hb,hF⟩:=F w mg fa _ KX G.T.g Ck
 exact OZ KX G.T.g G.T.b G.T.builtins G.T.nolimit hg A4 hints (bQ hlen Xw) hr hF hb (fun H hO hS=>jJ w H a ns hlen hO hS) fun H e s'=>Cm w H s₁ e s'
noncomputable def eE(s:Stmt):Arguments:=match s with
 |.FunctionDef _ a _ _ _ _ _ _ _ _=>a
 |_=>{ posonlyargs:=[],args:=[],vararg:=none,kwonlyargs:=[],kw_defaults:=[],kwarg:=none,defaults:=[] }
noncomputable def dn(s:Stmt):List Stmt:=match s with
 |.FunctionDef _ _ b _ _ _ _ _ _ _=>b
 |_=>[]
noncomputable def bP(s:Stmt):Scope:=match s with
 |.FunctionDef _ _ _ _ _ _ sc _ _ _=>sc
 |_=>{ kind:=.function,names:=[],isGenerator:=false,isCoroutine:=false }
noncomputable abbrev kZ:iR:=fun _ _ _ _ _ _=>False
noncomputable abbrev E0:XK:=fun _ _ _=>False
theorem Az{X:Cx}:Passes kZ X E0:=fun _ _ _ _ _ _ _ h=>h.elim
structure rA (K:PySem.W.Frag)(x qual:Str)(st:Stmt)(f:Addr)(fd:FuncData):Prop where
 ex:∃(oc:Value) (od:Option Addr) (kV doc pm:Value) (an:Option Addr) (bq ct:Value) (iT:Array (Option Value)),
  fd=PySem.W.fnOf x qual (eE st) (dn st) (bP st) .none kV doc pm an bq ct∧K.lookup f=some ⟨oc,od,.func fd,iT⟩∧PySem.W.codeIn K bq qual=true
 kp:PySem.W.keepIn K (.ref f)=true
section
variable {P:Program}{w:World}{K:PySem.W.Frag}{mg:Str→Option Value}{base:Heap}
theorem rA.ok{x qual:Str}{st:Stmt}{f:Addr}{fd:FuncData}{N ps:List Str}{k:Nat}{sp:Sp}(F:rA K x qual st f fd)(S:sr N ps (bP st))(len:∀vs H Q E,sp vs H Q E→vs.length=ps.length)
  (sZ:∀(bq:Value) (A:Around) (outer:List Env) (s:Shared) (H:Hp) (vs:List V) (Q:VK) (E:XK),dw k (A.deeper (envOfC qual (bP st) s.heap.objs.size f bq))→sp vs H Q E →
   ∃t,f6 (lO kZ P w K mg base N qual (bP st) f bq A outer s H E).pf (dn st) t∧t { nx:=fun _ H'=>Q .non H',rt:=Q } (start N vs) H):ku P w K mg base kZ (k+1) f fd ps sp:=by
 obtain⟨oc,od,kV,doc,pm,an,bq,ct,iT,rfl,lk,dM⟩:=F.ex
 refine HX lk dM S len fun A outer s H vs Q E hr jJ=>?_
 obtain⟨t,h,q⟩:=sZ bq A outer s H vs Q E hr jJ
 exact⟨t,h.pf,q⟩
theorem rA.binds{x qual:Str}{st:Stmt}{f:Addr}{fd:FuncData}{ps:List Str}(F:rA K x qual st f fd)
  (h:∀(kV doc pm:Value) (an:Option Addr) (bq ct:Value) (us:List Value),us.length=ps.length→bindArgs (PySem.W.fnOf x qual (eE st) (dn st) (bP st) .none kV doc pm an bq ct) ⟨us,[]⟩=pure (ps.zip us)):Binds K fd ps []:=by
 obtain⟨oc,od,kV,doc,pm,an,bq,ct,iT,rfl,lk,dM⟩:=F.ex
 exact .all (h kV doc pm an bq ct)
theorem GX{x qual:Str}{st:Stmt}{f:Addr}{oc:Value}{od an:Option Addr}{iT:Array (Option Value)}{kV doc pm bq ct:Value}(l:K.lookup f=some ⟨oc,od,.func (PySem.W.fnOf x qual (eE st) (dn st) (bP st) .none kV doc pm an bq ct),iT⟩)
 (c:PySem.W.codeIn K bq qual=true) (k:PySem.W.keepIn K (.ref f)=true):rA K x qual st f (PySem.W.fnOf x qual (eE st) (dn st) (bP st) .none kV doc pm an bq ct):=⟨⟨oc,od,kV,doc,pm,an,bq,ct,iT,rfl,l,c⟩,k⟩
end
theorem lH{A:Around}{k:Nat}(hr:dw k A):A.units+1<cLine:=dJ (Nat.add_le_add_left (by decide:1≤64) _) hr.units
section
variable {X:Cx}
theorem pv (i:Nat) {x:Str}{pos:Pos} (hN:X.N[i]?=some x:=by rfl) (hv:uz X.env.scope x:=by first|exact Or.inl rfl|exact Or.inr (Or.inl rfl)|exact Or.inr (Or.inr rfl)) (hd:(x==("__debug__" : Str))=false:=by decide)
 (dM:(x==("__classdict__" : Str))=false:=by decide):PE X (.Name x pos) (gq i):=z8 hN hv hd dM
end
theorem WG{A B:Prop}(h:A):if true=true then A else B:=by
 rw[if_pos rfl]
 exact h
def aA(H H':Hp):Prop:=∀b o,H b=some o→H' b=some o
theorem aA.refl(H:Hp):aA H H:=fun _ _ h=>h
theorem aA.trans{H H1 H2:Hp}(a:aA H H1)(b:aA H1 H2):aA H H2:=fun c o h=>b c o (a c o h)
theorem aA.free{H H':Hp}(e:aA H H'){l:Addr}(h:H' l=Option.none):H l=Option.none:=by
 cases q:H l with
 |none=>rfl
 |some o =>
  rw[e l o q]at h
  cases h
section
variable {κ:Type}[DecidableEq κ]
end
theorem Mx{α β:Type}{l:List α}{f:α→β→Sem (ForInStep β)}(g:α→β→β):∀(c:β),(∀x∈l,∀c,f x c=pure (.yield (g x c)))→forIn l c f=pure (l.foldl (fun c x=>g x c) c):=by
 induction l with
 |nil=>intro c _;rfl
 |cons x l ih =>
  intro c h
  rw[List.forIn_cons,h x cL,pure_bind]
  exact ih (g x c) fun y hy=>h y (cT _ hy)
noncomputable def gZ(env:Env)(x:Str×NameKind)(cs:List (Str×Addr)):List (Str×Addr):=if (x.2==NameKind.free)=true then (x.1,(env.cells.lookup x.1).getD 0)::cs else cs
noncomputable def oG(sc:Scope)(env:Env):List (Str×Addr):=sc.names.foldl (fun cs x=>gZ env x cs) []
theorem DV{sc:Scope}{env:Env}(h:∀x∈sc.names,x.2=.free→∃c,env.cells.lookup x.1=some c):closureFor sc env=pure (oG sc env):=by
 simp only[closureFor]
 rw[Mx (gZ env) [] (fun x hx c=>?_)]
 ·rfl
 ·obtain⟨n,kind⟩:=x
  cases hk:kind==NameKind.free with
  |false=>simp[gZ,hk]
  |true =>
   obtain⟨a,ha⟩:=h (n,kind) hx (by simpa using hk)
   have Xx:env.cells.lookup n=some a:=ha
   simp[gZ,hk,cellOf,Xx]
theorem GY(env:Env)(hh:∀(x:Str×NameKind),x.2=.free→True):∀(names:List (Str×NameKind)) (acc:List (Str×Addr)),(∀x∈names,x.2=.free→∃c,env.cells.lookup x.1=some c)→(∀x c,acc.lookup x=some c→env.cells.lookup x=some c) →
  ∀x c,(names.foldl (fun cs x=>gZ env x cs) acc).lookup x=some c→env.cells.lookup x=some c
 |[],acc,_,ha,x,c,h=>ha x c h
 |y::r,acc,hf,ha,x,c,h=>by
  refine GY env hh r (gZ env y acc) (fun z hz=>hf z (cT _ hz)) (fun z d hd=>?_) x c h
  unfold gZ at hd
  split at hd
  ·rename_i hk
   obtain⟨a,e⟩:=hf y cL (by simpa using hk)
   by_cases q:z=y.1
   ·subst q
    simp[e]at hd
    rw[e,hd]
   ·have q':(z==y.1)=false:=by simpa using q
    rw[kK,q']at hd
    exact ha z d hd
  ·exact ha z d hd
theorem GZ(env:Env):∀(names:List (Str×NameKind)) (acc:List (Str×Addr)) (x:Str),((∃c,acc.lookup x=some c)∨(x,NameKind.free)∈names)→∃c,(names.foldl (fun cs x=>gZ env x cs) acc).lookup x=some c
  |[],acc,x,h=>by
    rcases h with h|h
    · exact h
    · exact nomatch h
  |y::r,acc,x,h=>by
    refine GZ env r (gZ env y acc) x ?_
    by_cases hk:(y.2==NameKind.free)=true
    · by_cases q:x=y.1
      · refine .inl ⟨(env.cells.lookup y.1).getD 0,?_⟩
        unfold gZ
        rw[if_pos hk,q]
        simp
      · have q':(x==y.1)=false:=by simpa using q
        rcases h with⟨c,h⟩|h
        · refine .inl ⟨c,?_⟩
          unfold gZ
          rw[if_pos hk,kK,q']
          exact h
        · rcases fK.mp h with e|e
          · exact absurd (cP (·.1) e) q
          · exact .inr e
    · rcases h with⟨c,h⟩|h
      · refine .inl ⟨c,?_⟩
        unfold gZ
        rw[if_neg hk]
        exact h
      · rcases fK.mp h with e|e
        · refine absurd ?_ hk
          rw[←e]
          rfl
        · exact .inr e
theorem vz{env:Env}{x:Str}{k:NameKind}:∀{names:List (Str×NameKind)},(names.map fun(n,k)=>if (k==NameKind.free&&env.scope.kind==.function&&env.kindOf n==some .cell)then (n,NameKind.cell)else (n,k)).lookup x=some k →
    names.lookup x=some k∨(k=.cell∧names.lookup x=some .free)
  |[],h=>by simp at h
  | (n,j)::r,h=>by
    have ih:=@vz env x k r
    rw[bF]at h
    cases hx:x==n with
    |true =>
      by_cases hc:(j==NameKind.free&&env.scope.kind==.function&&env.kindOf n==some .cell)=true
      · simp only[hc,if_true]at h
        rw[kK,hx]at h
        have e:NameKind.cell=k:=c9 h
        refine .inr ⟨e.symm,?_⟩
        rw[kK,hx]
        simp only[Bool.and_eq_true]at hc
        have ej:j=.free:=by simpa using hc.1.1
        rw[ej]
      · simp only[hc,Bool.false_eq_true,if_false]at h
        rw[kK,hx]at h
        exact .inl (by rw[kK,hx];exact h)
    |false =>
      have h':(r.map fun(n,k)=>if (k==NameKind.free&&env.scope.kind==.function&&env.kindOf n==some .cell)then (n,NameKind.cell)else (n,k)).lookup x=some k:=by
        by_cases hc:(j==NameKind.free&&env.scope.kind==.function&&env.kindOf n==some .cell)=true
        · simp only[hc,if_true]at h
          rw[kK,hx]at h
          exact h
        · simp only[hc,Bool.false_eq_true,if_false]at h
          rw[kK,hx]at h
          exact h
      rw[kK,hx]
      exact ih h'
noncomputable def Cx.bU(X:Cx)(N:List Str)(sc:Scope)(C:Addr)(s₂:Shared)(H₂:Hp)(fp:List Addr)(pn:List (Addr×Obj)):Cx where
 prog:=X.prog
 w:=X.w
 K:=X.K
 mg:=X.mg
 base:=X.base
 A:=X.A
 N:=N
 s₀:=s₂
 H₀:=H₂
 env:=compEnvC sc (oG sc X.env) C X.env
 outer:=X.stack
 stack:=X.stack
 ex:=fp
 fn:=fun _=>false
 calm:=X.calm
 pn:=pn
 xe:=fun _ _=>False
def mj(X:Cx)(ifs:List Expr)(t:TT):Prop :=
 ∀(pins:List (Addr×Obj)) (s:Shared) (σ:St) (H:Hp) (Q:Bool→Hp→Prop),Inv X pins σ H s→t σ H Q →
  wpAny (model X.prog X.w) X.A (forIn ifs true fun c r=>if r=true then do let ok ←isTrue c X.env (eval c X.env);pure (ForInStep.yield ok)else pure (ForInStep.yield r)) (TP X pins σ Q) X.xe s
noncomputable def xx:TT:=fun _ H Q=>Q true H
theorem vN{X:Cx}:mj X [] xx:=fun _ _ _ H _ I h=>wpAny_tests_nil ⟨H,I,h⟩
theorem FZ{X:Cx}{c:Expr}{t:TT}(h:PT X c t):mj X [c] t:=fun pins s σ H Q I hq=>wpAny_tests_one (h pins s σ H Q I hq)
noncomputable def eZ(σ:St)(ix:List Nat):St:=ix.map fun i=>(σ[i]?).getD none
def tf(J:It)(D:Addr)(H1:Hp)(fr:St)(tc:TT)(te:TE)(Q:Addr→Hp→Prop):Prop :=
 ∃W:Nat→Nat→Hp→Prop,(∃m,W 0 m (upd H1 D (.lst [])))∧∀i m H,W i m H→(J.stop i H∧Q D H) ∨
  (J.go i H∧∀x H',J.hX i H x H'→tc (some x::fr) H' fun b H3=>if b=true then te (some x::fr) H3 fun y H4=>∃ys,H4 D=some (.lst ys)∧ys.length<sizeLine∧∃m',m'<m∧W (i+1) m' (upd H4 D (.lst (ys++[y])))
   else ∃m',m'<m∧W (i+1) m' H3)
def G0(gg:TG)(n:Nat)(J:It)(D:Addr)(H1:Hp)(fr:St)(tc:TT)(te:TE)(Q:Addr→Hp→Prop):Prop :=
 ∃W:Nat→Nat→Hp→Prop,(∃m,W 0 m (upd H1 D (.lst [])))∧∀i m H,W i m H→(J.stop i H∧Q D H) ∨
  (J.go i H∧∀x H',J.hX i H x H'→gg x (List.replicate n none++fr) H' fun σ' H2=>H2=H'∧(∃ow:St,ow.length=n∧σ'=ow++fr)∧tc σ' H' fun b H3=>if b=true then te σ' H3 fun y H4=>∃ys,H4 D=some (.lst ys)∧ys.length<sizeLine∧∃m',m'<m∧W (i+1) m' (upd H4 D (.lst (ys++[y])))
   else ∃m',m'<m∧W (i+1) m' H3)
theorem tf.g{J:It}{D:Addr}{H1:Hp}{fr:St}{tc:TT}{te:TE}{Q:Addr→Hp→Prop}(h:tf J D H1 fr tc te Q):G0 (g0 0) 1 J D H1 fr tc te Q:=by
 obtain⟨W,h0,h⟩:=h
 refine⟨W,h0,fun i m H w=>?_⟩
 rcases h i m H w with z|⟨g,z⟩
 ·exact .inl z
 ·exact .inr ⟨g,fun x H' y=>⟨rfl,⟨[some x],rfl,rfl⟩,z x H' y⟩⟩
noncomputable def qq(wi:TI)(ix:List Nat)(tc:TT)(te:TE):TE:=fun σ H Q=>wi σ H fun J H1=>∀D,H1 D=none→tf J D H1 (eZ σ ix) tc te fun D H=>Q (.ref D) H
theorem MH{prog:Program}{w:World}{A:Around}{s:Shared}{R:Result→Shared→Prop}{elt target iter:Expr}{ifs:List Expr}{scope:Scope}{pos:Pos}{it acc:Value}{env:Env}(I:Nat→Shared→Prop)
  (turn:∀n s,I n s→wpAny (model prog w) A (pyNext it) (fun r s₁=>match r with
   |none=>R (.ok .next) s₁
   |some v=>wpAny (model prog w) A (letOwnedTupleGo target it v) (fun _ s₂=>wpAny (model prog w) A (assign target env v) (fun _ s₃ =>
    wpAny (model prog w) A (forIn ifs true fun c r=>if r=true then do let ok ←isTrue c env (eval c env);pure (ForInStep.yield ok)else pure (ForInStep.yield r)) (fun ok s₄ =>
     if ok=true then wpAny (model prog w) A (eval elt env) (fun x s₅ =>
      wpAny (model prog w) A (call (.builtin "list.append") [acc,x]) (fun _ s₆=>∃m,m<n∧I m s₆) (notedBy (model prog w) A env fun e s'=>R (.error e) s') s₅) (notedBy (model prog w) A env fun e s'=>R (.error e) s') s₄
     else ∃m,m<n∧I m s₄) (notedBy (model prog w) A env fun e s'=>R (.error e) s') s₃) (notedBy (model prog w) A env fun e s'=>R (.error e) s') s₂) (notedBy (model prog w) A env fun e s'=>R (.error e) s') s₁) (notedBy (model prog w) A env fun e s'=>R (.error e) s') s)
  (n:Nat) (h:I n s) :
  codeAny (model prog w) A (.compLoop (.ListComp elt [⟨target,iter,ifs,0⟩] scope pos) 0 it acc env) R s:=by
 refine codeAny_loop rfl I (fun n s hI=>?_) n h
 show wpAny _ A ((compTurn (.ListComp elt [⟨target,iter,ifs,0⟩] scope pos) 0 it acc env).onRaise (fun x=>do noteFrame x env;theTreesLotGoes x)) _ _ s
 refine wpAny_noted ?_
 rw[compTurn_list]
 refine av (xV (av (fA (turn n s hI) (fun r s₁ h₁=>?_) fun _ _ h'=>h')))
 cases r with
 |none=>exact aO h₁
 |some v =>
  refine av (fA h₁ (fun _ s₂ h₂=>?_) fun _ _ h'=>h')
  refine av (fA h₂ (fun _ s₃ h₃=>av (fA h₃ (fun ok s₄ h₄=>?_) fun _ _ h'=>h')) fun _ _ h'=>h')
  cases ok with
  |false=>exact aO ⟨rfl,h₄⟩
  |true =>
   exact av (av (fA h₄ (fun x s₅ h₅=>av (fA h₅ (fun _ s₆ h₆=>aO (aO ⟨rfl,h₆⟩)) fun _ _ h'=>h')) fun _ _ h'=>h'))
structure j4 (N N':List Str)(sc au:Scope)(x:Str)(ix:List Nat):Prop where
 kind:au.kind=.function
 wd:∀y∈au.names,y.2≠.cell
 names:∀y∈au.names,y.2=.local→au.names.lookup y.1=some .local
 loc:au.names.lookup x=some .local
 free:∀y∈au.names,y.2=.free→sc.names.lookup y.1=some .cell
 nd:N'.Nodup
 hd:N'[0]?=some x
 len:N'.length=ix.length+1
 fr:∀p∈ix.zip N'.tail,N[p.1]?=some p.2∧sc.names.lookup p.2=some .cell∧au.names.lookup p.2=some .free
structure F0 (n:Nat)(N N':List Str)(sc au:Scope)(ix:List Nat):Prop where
 kind:au.kind=.function
 wd:∀y∈au.names,y.2≠.cell
 names:∀y∈au.names,y.2=.local→au.names.lookup y.1=some .local
 free:∀y∈au.names,y.2=.free→sc.names.lookup y.1=some .cell
 len:N'.length=ix.length+n
 fr:∀p∈ix.zip (N'.drop n),N[p.1]?=some p.2∧sc.names.lookup p.2=some .cell∧au.names.lookup p.2=some .free
theorem j4.g{N N':List Str}{sc au:Scope}{x:Str}{ix:List Nat}(h:j4 N N' sc au x ix):F0 1 N N' sc au ix :=
 ⟨h.kind,h.wd,h.names,h.free,h.len,by rw[List.drop_one];exact h.fr⟩
section
variable {X:Cx}{N':List Str}{au:Scope}{x:Str}{ix:List Nat}{px pos:Pos}{elt iter:Expr}{ifs:List Expr}{wi:TI}{tc:TT}{te:TE}
theorem MJ{n:Nat}{tg:Expr}{gg:TG}{pins:List (Addr×Obj)}{σ:St}{H2:Hp}{s2:Shared}{it:Addr}{fp:List Addr}{tn:Nat→Heap→Prop}{J:It}{RR:Value→Addr→Result→Shared→Prop}{E:Value→Shared→Prop}{Qd:Addr→Hp→Prop}
  (ok:F0 n X.N N' X.env.scope au ix) (hg:∀C s₂ H₂ fp pn,PG (X.bU N' au C s₂ H₂ fp pn) tg gg) (hc:X.calm=true) (I2:Inv X pins σ H2 s2) (T:Turn X.prog X.w X.K tg J fp it tn) (eV:tn 0 s2.heap) (f2:∀b∈fp,iE X pins H2 b)
  (fN:∀C s₂ H₂ fp pn,mj (X.bU N' au C s₂ H₂ fp pn) ifs tc) (k5:∀C s₂ H₂ fp pn,PE (X.bU N' au C s₂ H₂ fp pn) elt te)
  (hW:∀D,H2 D=none→G0 gg n J D H2 (eZ σ ix) tc te Qd)
  (Cp:∀D C s4 H4 m,Inv X pins σ H4 s4→s4.heap.Ns C m→(∀(h':Heap) (t':Nat) (σ':St) (s5:Shared),Inv X pins σ' H4 s5→Heap.SameBut C s5.heap h'→Inv X pins σ' H4 { s5 with heap:=h',toks:=t' })→C≠X.env.locals→(∀y c,X.env.cells.lookup y=some c→c≠C)→Qd D H4→RR (.ref D) C (.ok .next) s4) :
  wpAny (model X.prog X.w) X.A (newList []) (fun acc s₃=>wpAny (model X.prog X.w) X.A (newFunctionEnv au X.env.globals (oG au X.env) [] X.env.qual none .none (some X.env)) (fun tS s₄ =>
   codeAny (model X.prog X.w) X.A (.compStart (.ListComp elt [⟨tg,iter,ifs,0⟩] au pos) 0 (.ref it) acc { tS with scope:=relabel au X.env }) (RR acc tS.locals) s₄) E s₃) E s2:=by
 refine kJ (wpAny_newFunctionEnv ok.wd (by intro y hy;simp at hy) (fun h₁ hns₁ hsb₁=>?_) ok.kind)
 dsimp only at hns₁ hsb₁ ⊢
 generalize Cq:s2.heap.push { cls:=.type "list",dict:=none,data:=.seq ([]:List Value).toArray }=HP at hns₁ hsb₁ ⊢
 have hC:HP.objs.size=s2.heap.objs.size+1:=by rw[←Cq,Heap.size_push]
 have yv:s2.heap.objs.size≠HP.objs.size:=by rw[hC];exact cK (Nat.lt_succ_self _)
 have tT:s2.heap.objs.size≤HP.objs.size:=by rw[hC];exact Nat.le_succ _
 have below:∀b,b<s2.heap.objs.size→b≠HP.objs.size∧b≠s2.heap.objs.size:=fun b hb=>⟨by rw[hC];exact cK (Nat.lt_succ_of_lt hb),cK hb⟩
 have old:∀b o,s2.heap.get? b=some o→h₁.get? b=some o:=fun b o e=>hsb₁.extBut b o (below b (bz e)).1 (cy _ (Cq▸cy _ e))
 have tU:h₁.get? s2.heap.objs.size=some { cls:=.type "list",dict:=none,data:=.seq ([]:List Value).toArray }:=hsb₁.extBut _ _ yv (cy _ (Cq▸eU _ rfl))
 have Cr:H2 s2.heap.objs.size=none:=I2.az.fresh (aR _)
 have Kw:H2 HP.objs.size=none:=I2.az.fresh tT
 generalize hD:s2.heap.objs.size=D at yv tU Cr ⊢
 generalize Zn:HP.objs.size=C at hns₁ hsb₁ yv Kw tT below ⊢
 have wF:∀y∈au.names,y.2=.free→∃c,X.env.cells.lookup y.1=some c:=fun y hy e=>I2.ok.has y.1 (.inl (ok.free y hy e))
 have ml:∀y c,(oG au X.env).lookup y=some c→X.env.cells.lookup y=some c:=GY X.env (fun _ _=>trivial) au.names [] wF (fun _ _ z=>by simp at z)
 have Kx:∀y,(y,NameKind.free)∈au.names→∃c,(oG au X.env).lookup y=some c:=fun y hy=>GZ X.env au.names [] y (.inr hy)
 have G3:∀y c,X.env.cells.lookup y=some c→c<s2.heap.objs.size:=fun y c e=>by
  obtain⟨v,o,ho,_⟩:=I2.cell y c e
  exact bz ho
 have A5:∀b∈fp,b<s2.heap.objs.size:=fun b hb=>by
  obtain⟨o,e,_⟩:=T.obj 0 _ eV b hb
  exact bz e
 have A6:∀b,b≠X.env.locals→b∉X.fs→b∉hU X.stack:=fun b h1 h2 z=>(fK.mp (I2.z7 b z)).elim h1 h2
 have Xy:(X.bU N' au C s2 H2 fp (X.pn++pins)).Ok:=by
  refine⟨I2.ok.mod,ok.kind,I2.ok.glob,I2.ok.blt,tT,fun y z c h1 h2=>?_,fun y hy=>?_,fun y c z=>?_,I2.ok.hd,I2.ok.frames,.inl rfl,fun b hb=>?_,I2.bs,bQ I2.ok.kO I2.sz,fun b o e hb=>?_,fun b hb=>?_,I2.stack,I2.FJ⟩
  ·exact I2.ok.inj y z c (ml y c h1) (ml z c h2)
  ·have uL:(relabel au X.env).names.lookup y=some .cell∨(relabel au X.env).names.lookup y=some .free:=hy
   have hf:au.names.lookup y=some .free:=by
    rcases uL with z|z
    ·rcases vz z with q|q
     ·exact absurd rfl (ok.wd _ (lT q))
     ·exact q.2
    ·rcases vz z with q|q
     ·exact q
     ·exact absurd q.1 (by decide)
   exact Kx y (lT hf)
  ·exact nomatch z
  ·exact⟨(below b (A5 b hb)).1,fun y c e=>(f2 b hb).2.2.2.2.1 y c (ml y c e)⟩
  ·rcases (f2 b hb).2.2.2.1 with z|z
   ·exact I2.ok.tN b o e z
   ·exact absurd (dI (bz e) (bQ I2.ok.kO z)) (jA _)
  ·exact A6 b (f2 b hb).2.1 (f2 b hb).2.2.1
 have Ct:∀{H':Hp},(∀b∈fp,H' b=none)→∀b∈fp,iE (X.bU N' au C s2 H2 fp (X.pn++pins)) [] H' b:=fun hn b hb =>
  ⟨hn b hb,(below b (A5 b hb)).1,A6 b (f2 b hb).2.1 (f2 b hb).2.2.1,.inl hb,fun y c e=>(f2 b hb).2.2.2.2.1 y c (ml y c e),fun p hp=>(f2 b hb).2.2.2.2.2 p (by simpa using (show p∈(X.pn++pins)++[] from hp))⟩
 obtain⟨mL,Zo,Vk⟩:=id I2.loc
 have IB:Inv (X.bU N' au C s2 H2 fp (X.pn++pins)) [] (List.replicate n none++eZ σ ix) (upd H2 D (.lst [])) { s2 with heap:=h₁,toks:=s2.toks+([]:List (Str×Value)).length }:=by
  refine⟨Xy,rfl,I2.bare,Un.laid old (qU hD) Cr,⟨_,hns₁,fun i y v h1 h2 h3=>?_⟩,fun y c e=>?_,?_,fun y c e=>?_,fun p hp=>?_,I2.az.laid old (qU hD) ⟨oW _,[],_,.nil,tU⟩,?_⟩
  ·by_cases Ky:i<n
   ·rw[lU (by simpa using Ky),BI,if_pos Ky]at h2
    cases h2
   ·obtain⟨j,rfl⟩:∃j,i=n+j:=⟨i-n,by omega⟩
    have rB:(eZ σ ix)[j]?=some (some v):=by
     rw[List.getElem?_append_right (by simp)]at h2
     simpa using h2
    unfold eZ at rB
    rw[cE]at rB
    cases ei:ix[j]? with
    |none=>rw[ei]at rB;cases rB
    |some i =>
     rw[ei]at rB
     have xA:(σ[i]?).getD none=some v:=c9 rB
     have hσ:σ[i]?=some (some v):=by
      cases es:σ[i]? with
      |none=>rw[es]at xA;cases xA
      |some q=>rw[es]at xA;exact cP some xA
     have WH:(N'.drop n)[j]?=some y:=by rw[List.getElem?_drop];exact h1
     obtain⟨n1,n2,n3⟩:=ok.fr (i,y) (fB (i:=j) (by rw[List.getElem?_zip_eq_some];exact⟨ei,WH⟩))
     obtain⟨u,ru,lk⟩:=Vk i y v n1 hσ (.inr (.inl n2))
     refine⟨u,ru,?_⟩
     rcases lk with⟨k,_⟩|⟨_,c,ec,z⟩
     ·have k':X.env.scope.names.lookup y=some .local:=k
      rw[n2]at k'
      cases k'
     ·obtain⟨c',Kz⟩:=Kx y (lT n3)
      have e3:=ml y c' Kz
      rw[ec]at e3
      cases e3
      have kk:(relabel au X.env).names.lookup y=some .cell∨(relabel au X.env).names.lookup y=some .free:=by
       rcases h3 with q|q|q
       ·have q':(relabel au X.env).names.lookup y=some .local:=q
        rcases vz q' with r|r
        ·rw[n3]at r;cases r
        ·exact absurd r.1 (by decide)
       ·exact .inl q
       ·exact .inr q
      exact .inr ⟨kk,c,Kz,z.keeps old⟩
  ·obtain⟨v,z⟩:=I2.cell y c (ml y c e)
   exact⟨v,z.keeps old⟩
  ·show upd H2 D (.lst []) C=none
   rw[ay (jD yv)]
   exact Kw
  ·show upd H2 D (.lst []) c=none
   have l:=G3 y c (ml y c e)
   rw[ay (fun q=>by rw[q,←hD]at l;exact jA _ l)]
   exact I2.gE y c (ml y c e)
  ·have mn:p∈X.pn++pins:=by simpa using (show p∈(X.pn++pins)++[] from hp)
   obtain⟨e,n,ne,nf,d⟩:=I2.pin p mn
   have l:=bz e
   refine⟨old _ _ e,?_,(below p.1 l).1,A6 p.1 ne nf,d⟩
   rw[ay (fun q=>by rw[q,←hD]at l;exact jA _ l)]
   exact n
  ·show(List.replicate n none++eZ σ ix:St).length=N'.length
   rw[ok.len]
   simp[eZ,Nat.add_comm]
 have back:∀{H4:Hp}{s4:Shared}{σ4:St}{ps:List (Addr×Obj)},Inv (X.bU N' au C s2 H2 fp (X.pn++pins)) ps σ4 H4 s4→Inv X pins σ H4 s4:=fun I4 =>
  I2.U4 I4.os I4.base I4.az I4.bare fun b hb=>⟨(f2 b hb).2.2.2.1,(f2 b hb).2.1,(f2 b hb).2.2.2.2.1,(f2 b hb).2.2.2.2.2⟩
 have oZ:C≠X.env.locals:=fun z=>by
  have l:=I2.lt
  rw[←z]at l
  exact absurd (dI l tT) (jA _)
 have kQ:∀y c,X.env.cells.lookup y=some c→c≠C:=fun y c e=>(below c (G3 y c e)).1
 have Xz:∀p∈X.pn++pins,p.1≠C:=fun p hp=>(below p.1 (bz (I2.pin p hp).1)).1
 have loop:∀s₃:Shared,s₃={ s2 with heap:=h₁,toks:=s2.toks+([]:List (Str×Value)).length } →
   codeAny (model X.prog X.w) X.A (.compLoop (.ListComp elt [⟨tg,iter,ifs,0⟩] au pos) 0 (.ref it) (.ref D) (compEnvC au (oG au X.env) C X.env)) (RR (.ref D) C) s₃:=by
  rintro s₃ rfl
  obtain⟨W,⟨m0,XA⟩,turn⟩:=hW D Cr
  refine MH (fun k s'=>∃i H',Inv (X.bU N' au C s2 H2 fp (X.pn++pins)) [] (List.replicate n none++eZ σ ix) H' s'∧tn i s'.heap∧(∀b∈fp,H' b=none)∧W i k H') ?_ m0
   ⟨0,_,IB,T.keep _ _ _ eV fun b _ o e=>old b o e,fun b hb=>?_,XA⟩
  ·rintro k s3 ⟨i,H3,I3,f7,uF,w3⟩
   rcases turn i k H3 w3 with⟨stop,qn⟩|⟨go,step⟩
   ·refine aC (T.done (X.bU N' au C s2 H2 fp (X.pn++pins)) rfl rfl rfl hc i [] s3 _ H3 _ I3 (Ct uF) f7 stop) fun r s4 ⟨hr,I4⟩=>?_
    subst hr
    obtain⟨m4,XB,_⟩:=id I4.loc
    refine Cp D C s4 H3 m4 (back I4) XB (fun h' t' σ' s5 I5 sb=>I5.turned (it:=C) (fun b o hb e=>(sb.2 b hb).trans e) I4.free oZ (.inr (bQ I2.sz tT)) kQ Xz) oZ kQ qn
   ·refine aC (T.item (X.bU N' au C s2 H2 fp (X.pn++pins)) rfl rfl rfl hc i [] s3 _ H3 _ I3 (Ct uF) f7 go) fun r s4 ⟨u,hr,h4⟩=>?_
    subst hr
    refine aC h4 fun _ s5 ⟨v,H5,I5,r5,y5,dS,B8⟩=>?_
    have B9:=I5.pinned (Ct B8) (T.obj _ _ dS)
    have fin:∀{ow:St}{H7:Hp}{s7:Shared},ow.length=n→Inv (X.bU N' au C s2 H2 fp (X.pn++pins)) ([]++sF fp s5.heap) (ow++eZ σ ix) H7 s7→∀{m':Nat},m'<k→W (i+1) m' H7 →
      ∃m,m<k∧∃i H',Inv (X.bU N' au C s2 H2 fp (X.pn++pins)) [] (List.replicate n none++eZ σ ix) H' s7∧tn i s7.heap∧(∀b∈fp,H' b=none)∧W i m H':=fun {ow H7 s7} how I7 {m'} hm w7=>by
     refine⟨m',hm,i+1,H7,I7.vF.weak (by rw[b9,b9,how,List.length_replicate]) (fun j q e=>?_),T.keep _ _ _ dS fun b hb o e=>(I7.pin (b,o) (iP _ (iP _ (vD hb e)))).1,fun b hb=>?_,w7⟩
     ·by_cases hj:j<n
      ·rw[lU (by simpa using hj),BI,if_pos hj]at e
       cases e
      ·rw[List.getElem?_append_right (by simpa using hj)]at e
       rw[List.getElem?_append_right (by omega),how]
       simpa using e
     ·obtain⟨o,e,d⟩:=T.obj _ _ dS b hb
      exact(I7.pin (b,o) (iP _ (iP _ (vD hb e)))).2.1
    refine fA (hg C s2 H2 fp (X.pn++pins) _ s5 _ H5 v u _ B9 r5 (step v H5 y5)) (fun _ s6 ⟨σ6,H6,I6,e1,⟨ow,how,e2⟩,q6⟩=>?_) fun _ _ z=>z.elim
    subst e1 e2
    refine fA (fN C s2 H2 fp (X.pn++pins) _ s6 _ _ _ I6 q6) (fun b s7 ⟨H7,I7,q7⟩=>?_) fun _ _ z=>z.elim
    cases b with
    |false =>
     rw[if_neg aZ]at q7 ⊢
     obtain⟨m',hm,w7⟩:=q7
     exact fin how I7 hm w7
    |true =>
     rw[if_pos rfl]at q7 ⊢
     refine fA (k5 C s2 H2 fp (X.pn++pins) _ s7 _ _ _ I7 q7) (fun uy s8 ⟨y,H8,I8,r8,ys,pA,hl,m',hm,w8⟩=>?_) fun _ _ z=>z.elim
     refine fA (EB (X:=X.bU N' au C s2 H2 fp (X.pn++pins)) _ s8 _ H8 (.ref D) [y] (.ref D) [uy] (fun _ H'=>H'=upd H8 D (.lst (ys++[y]))) I8 rfl (.cons r8 .nil) ⟨D,ys,y,rfl,rfl,pA,hl,rfl⟩) (fun _ s9 ⟨z,H9,I9,_,q9⟩=>?_) fun _ _ z=>z.elim
     subst q9
     exact fin how I9 hm w8
  ·show upd H2 D (.lst []) b=none
   have l:=A5 b hb
   rw[ay (fun q=>by rw[q,←hD]at l;exact jA _ l)]
   exact(f2 b hb).1
 exact codeAny_compStart_list (loop _ rfl) (T.self X.A 0 _ _ _ (T.keep _ _ _ eV fun b _ o e=>old b o e) (loop _ rfl))
theorem Ef{pins:List (Addr×Obj)}{σ:St}{H2:Hp}{s2:Shared}{it:Addr}{fp:List Addr}{tn:Nat→Heap→Prop}{J:It}{RR:Value→Addr→Result→Shared→Prop}{E:Value→Shared→Prop}{Qd:Addr→Hp→Prop}
  (ok:j4 X.N N' X.env.scope au x ix) (hc:X.calm=true) (I2:Inv X pins σ H2 s2) (T:Turn X.prog X.w X.K (.Name x px) J fp it tn) (eV:tn 0 s2.heap) (f2:∀b∈fp,iE X pins H2 b)
  (fN:∀C s₂ H₂ fp pn,mj (X.bU N' au C s₂ H₂ fp pn) ifs tc) (k5:∀C s₂ H₂ fp pn,PE (X.bU N' au C s₂ H₂ fp pn) elt te)
  (hW:∀D,H2 D=none→tf J D H2 (eZ σ ix) tc te Qd)
  (Cp:∀D C s4 H4 m,Inv X pins σ H4 s4→s4.heap.Ns C m→(∀(h':Heap) (t':Nat) (σ':St) (s5:Shared),Inv X pins σ' H4 s5→Heap.SameBut C s5.heap h'→Inv X pins σ' H4 { s5 with heap:=h',toks:=t' })→C≠X.env.locals→(∀y c,X.env.cells.lookup y=some c→c≠C)→Qd D H4→RR (.ref D) C (.ok .next) s4) :
  wpAny (model X.prog X.w) X.A (newList []) (fun acc s₃=>wpAny (model X.prog X.w) X.A (newFunctionEnv au X.env.globals (oG au X.env) [] X.env.qual none .none (some X.env)) (fun tS s₄ =>
   codeAny (model X.prog X.w) X.A (.compStart (.ListComp elt [⟨.Name x px,iter,ifs,0⟩] au pos) 0 (.ref it) acc { tS with scope:=relabel au X.env }) (RR acc tS.locals) s₄) E s₃) E s2:=by
 have pB:∀C s₂ H₂ fp pn,(X.bU N' au C s₂ H₂ fp pn).env.scope.names.lookup x=some .local:=fun _ _ _ _ _=>lookup_relabel_local ok.loc
 exact MJ ok.g (fun C s₂ H₂ fp pn=>FL (X:=X.bU N' au C s₂ H₂ fp pn) (i:=0) ok.nd ok.hd (.inl (pB C s₂ H₂ fp pn)) (.inr (pB C s₂ H₂ fp pn))) hc I2 T eV f2 fN k5 (fun D hD=>(hW D hD).g) Cp
theorem vO(ok:j4 X.N N' X.env.scope au x ix)(hc:X.calm=true)(hi:PI X (.Name x px) iter wi)(fN:∀C s₂ H₂ fp pn,mj (X.bU N' au C s₂ H₂ fp pn) ifs tc)(k5:∀C s₂ H₂ fp pn,PE (X.bU N' au C s₂ H₂ fp pn) elt te)
  (hs:∀x,foldedSetIterable iter X.env x=pure x:=by intro _;rfl):PE X (.ListComp elt [⟨.Name x px,iter,ifs,0⟩] au pos) (qq wi ix tc te):=by
 intro pins s σ H Q I h
 rw[eval_ListComp]
 refine wpAny_comprehension_free (use:=none) rfl hs (DV fun y hy e=>I.ok.has y.1 (.inl (ok.free y hy e))) ok.kind ok.names (aC (hi pins s σ H _ I h) fun v s1 h1=>aC h1 fun yl s2 h2=>?_)
 obtain⟨it,fp,tn,J,H2,e,I2,T,eV,f2,hW⟩:=h2
 subst e
 refine Ef (RR:=fun acc C=>compPost (model X.prog X.w) X.A X.xe none (EP X pins σ Q) acc C) (Qd:=fun D H=>Q (.ref D) H) ok hc I2 T eV f2 fN k5 hW ?_
 intro D C s4 H4 m I4 rq tr _ _ q
 exact⟨m,rq,fun h' sb=>⟨.ref D,H4,tr h' s4.toks σ s4 I4 sb,rfl,q⟩⟩
theorem MZ{i:Nat}{y:Str}{py tV:Pos}(hN:X.N.Nodup)(Cu:X.N[i]?=some y)(hy:X.env.scope.names.lookup y=some .local)(ok:j4 X.N N' X.env.scope au x ix)(hc:X.calm=true)(hi:PI X (.Name x px) iter wi)(fN:∀C s₂ H₂ fp pn,mj (X.bU N' au C s₂ H₂ fp pn) ifs tc)
  (k5:∀C s₂ H₂ fp pn,PE (X.bU N' au C s₂ H₂ fp pn) elt te) (Cv:swapsWith (.ListComp elt [⟨.Name x px,iter,ifs,0⟩] au pos) (some (.Name y py)) tV.line X.env=pure true:=by rfl)
  (hs:∀x,foldedSetIterable iter X.env x=pure x:=by intro _;rfl):PS X (.Assign [.Name y py] (.ListComp elt [⟨.Name x px,iter,ifs,0⟩] au pos) tV) (gK (qq wi ix tc te) (g0 i)):=by
 intro pins s σ H D I h
 rw[exec_Assign_Name_used _ _ _ _ Cv]
 refine av (xV (av ?_))
 show wpAny _ X.A (do let _ ←comprehension (.ListComp elt [⟨.Name x px,iter,ifs,0⟩] au pos) au X.env _ (newList []) false (eval iter X.env) (some (assign (.Name y py) X.env))) _ _ s
 refine av (fA (wpAny_comprehension_free (use:=some (assign (.Name y py) X.env)) (Q:=fun _ s'=>SP X pins D .next s') rfl hs (DV fun y hy e=>I.ok.has y.1 (.inl (ok.free y hy e))) ok.kind ok.names
  (aC (hi pins s σ H _ I h) fun v s1 h1=>aC h1 fun yl s2 h2=>?_)) (fun _ s' hq=>aO (aO hq)) fun _ _ e=>e)
 obtain⟨it,fp,tn,J,H2,e,I2,T,eV,f2,hW⟩:=h2
 subst e
 refine Ef (RR:=fun acc C=>compPost (model X.prog X.w) X.A X.xe (some (assign (.Name y py) X.env)) (fun _ s'=>SP X pins D .next s') acc C) (Qd:=fun B H=>D.nx (σ.set i (some (.ref B))) H) ok hc I2 T eV f2 fN k5 hW ?_
 intro B C s4 H4 m I4 rq tr oZ kQ q
 show wpAny _ X.A (assign (.Name y py) X.env (.ref B)) _ _ s4
 refine wpAny_assign_Name (Ew I4 hN Cu (.inl hy) (show RelV (.ref B) (.ref B)from rfl) (fun s5 I5 ⟨a,sb,ha⟩=>?_) (.inr hy))
 have XC:C≠a:=by
  rcases ha with e|e
  ·rw[e];exact oZ
  ·exact jD (kQ y a e)
 exact⟨m,rq.sameBut sb XC,fun h' XD=>⟨_,H4,tr h' s5.toks _ s5 I5 XD,q⟩⟩
end
def iw(h:Heap)(d:Addr)(es:Array DictEntry)(ep:Nat):Prop:=∃o,h.get? d=some o∧o.ExactDict∧o.data=.dict es ep
theorem iw.ty{s:Shared}{d:Addr}{es:Array DictEntry}{ep:Nat}(x:iw s.heap d es ep):s.TypeIs (.ref d) "dict" := let ⟨o,ho,hc,_⟩:=x;⟨o,ho,hc.1⟩
theorem iw.at{h h':Heap}{d:Addr}{es:Array DictEntry}{ep:Nat}(x:iw h d es ep)(e:∀o,h.get? d=some o→h'.get? d=some o):iw h' d es ep:=let ⟨o,ho,r⟩:=x;⟨o,e _ ho,r⟩
theorem iw.lt{h:Heap}{d:Addr}{es:Array DictEntry}{ep:Nat}(x:iw h d es ep):d<h.objs.size:=let ⟨_,ho,_⟩:=x;bz ho
section
variable {prog:Program}{w:World}{A:Around}{E:Value→Shared→Prop}{s:Shared}{d it:Addr}{es:Array DictEntry}{i ep:Nat}
theorem M0{Q:Value→Shared→Prop}(hd:(d==sysModules)=false)(hm:iw s.heap d es ep)
  (hQ:Q (.ref s.heap.objs.size) { s with heap:=s.heap.push { cls:=.type "dict_keyiterator",data:=.fields #[.ref d,.int 0 0,.int es.size 0,.int ep 0] } }):wpAny (model prog w) A (pyIter (.ref d)) Q E s:=by
 obtain⟨o,ho,hc,Jt⟩:=id hm
 have hT:=hm.ty
 refine wpAny_pyIter_slot hT F.slot_dict_iter (oT F.slot_dict_iter hT F.entry_dict_iter ?_ (F.args_dict_iter_1 _));unfold Builtin.«dict.__iter__»
 refine av ?_;unfold Builtin.Dict.dictSlotNone;refine av (wpAny_notOrdered_dict hT ?_)
 show wpAny _ _ (pure (Value.ref d)) _ _ s;refine aO ?_
 show wpAny _ _ (Builtin.Dict.showsAll d >>= _) _ _ s;unfold Builtin.Dict.showsAll
 rw[if_neg (by rw[hd];exact aZ)];refine av (aO ?_)
 refine av (BV ho Jt ?_);refine av (BW ho Jt ?_)
 refine av (kJ (aO ⟨_,rfl, "dict_keyiterator",_,⟨_,eU _ rfl,rfl⟩,uq.lookup,?_⟩));simpa[rawInt]using hQ
theorem M3{e:DictEntry}{Q:Option Value→Shared→Prop}(hit:s.heap.IsKeyIter it d i es.size ep)(hm:iw s.heap d es ep)(hx:es[i]?=some e)
  (hQ:∀h',h'.IsKeyIter it d (i+1) es.size ep→Heap.SameBut it s.heap h'→Q (some e.key) { s with heap:=h' }):wpAny (model prog w) A (pyNext (.ref it)) Q E s:=by
 obtain⟨o,ho,hc,hd⟩:=id hit;obtain⟨od,uM,dM,uN⟩:=id hm
 unfold pyNext;refine av (wpAny_attempt (x5 (name:=Str.ofString "__next__") hit.typeIs uq (oT uq hit.typeIs Kc ?_ (Kd _))))
 refine av (aO ?_);refine av ?_;refine av ?_
 (first|refine av (x9 hit.typeIs (aO ?_))|refine av (ya hit.typeIs (aO ?_)));refine av (wpAny_fieldsOf ho hd ?_)
 have A7:Builtin.Dict_items.ownsTuple "dict_keyiterator" = false:=by decide +kernel
 simp only[A7,Bool.false_eq_true,if_false];show wpAny _ _ (if (Value.ref d==Value.none)=true then _ else _) _ _ s
 rw[if_neg (show ¬((Value.ref d==Value.none)=true)from aZ)];refine av (aO ?_)
 refine av (BV uM uN ?_);rw[if_neg (by simp)];refine av (aO ?_)
 refine av (BW uM uN ?_);rw[if_neg (by simp)];refine aO ?_
 have aT:i<es.size:=(Ke.mp hx).1
 have yw:es[i]=e:=(Ke.mp hx).2
 simp only[show ¬((i:Int)<0)from by omega,if_false,Int.toNat_natCast,Array.getElem?_eq_getElem aT];refine av ?_
 (first|refine av (x9 hit.typeIs (aO ?_))|refine av (ya hit.typeIs (aO ?_)));refine av (wpAny_isOneOf_keyiter hit.typeIs ?_)
 show wpAny _ _ (setField (.ref it) 1 (rawInt ((i:Int)+1)) >>= _) _ _ s;refine av (wpAny_setField ho hd (by simp) ?_)
 have Ju:(s.heap.update it (Obj.mapFields (·.setIfInBounds 1 (rawInt ((i:Int)+1))))).IsKeyIter it d (i+1) es.size ep:=⟨_,Heap.get?_update_self _ ho (Obj.isFreed_of_fields (Obj.data_mapFields hd _)),(Obj.cls_mapFields ..).trans hc,by rw[Obj.data_mapFields hd];simp[rawInt]⟩
 refine av (lS ?_);refine av (wpAny_isOneOf_keyiter (s:={ s with heap:=s.heap.update it (Obj.mapFields (·.setIfInBounds 1 (rawInt ((i:Int)+1)))) }) Ju.typeIs ?_)
 show wpAny _ _ (pure es[i].key) _ _ _;rw[yw]
 exact aO (aO ⟨_,rfl,aO (hQ _ Ju (Heap.SameBut.update ..))⟩)
theorem NF{Q:Option Value→Shared→Prop}(hh:A.handled=none)(hit:s.heap.IsKeyIter it d i es.size ep)(hm:iw s.heap d es ep)(hx:es.size≤i)
  (hQ:∀h',Heap.ExtBut it s.heap h'→Q none { s with heap:=h' }):wpAny (model prog w) A (pyNext (.ref it)) Q E s:=by
 obtain⟨o,ho,hc,hd⟩:=id hit;obtain⟨od,uM,dM,uN⟩:=id hm
 unfold pyNext;refine av (wpAny_attempt (x5 (name:=Str.ofString "__next__") hit.typeIs uq (oT uq hit.typeIs Kc ?_ (Kd _))))
 refine av (aO ?_);refine av ?_;refine av ?_
 (first|refine av (x9 hit.typeIs (aO ?_))|refine av (ya hit.typeIs (aO ?_)));refine av (wpAny_fieldsOf ho hd ?_)
 have A7:Builtin.Dict_items.ownsTuple "dict_keyiterator" = false:=by decide +kernel
 simp only[A7,Bool.false_eq_true,if_false];show wpAny _ _ (if (Value.ref d==Value.none)=true then _ else _) _ _ s
 rw[if_neg (show ¬((Value.ref d==Value.none)=true)from aZ)];refine av (aO ?_)
 refine av (BV uM uN ?_);rw[if_neg (by simp)];refine av (aO ?_)
 refine av (BW uM uN ?_);rw[if_neg (by simp)];refine aO ?_
 simp only[show ¬((i:Int)<0)from by omega,if_false,Int.toNat_natCast,Array.getElem?_eq_none hx];refine av ?_
 (first|refine av (x9 hit.typeIs (aO ?_))|refine av (ya hit.typeIs (aO ?_)));show wpAny _ _ (setField (.ref it) 0 .none >>= _) _ _ s
 refine av (wpAny_setField ho hd (by simp) ?_);show wpAny _ _ (newExc (.type "StopIteration") [] >>= _) _ _ _
 refine av ?_;simp only[newExc,newTuple];refine av (kJ ?_ (by size_fits))
 refine av (m:=firstArgMember _ _) (wpAny_of_eq (a:=Value.none) (by first|rfl | (simp only[firstArgMember];rfl)) ?_);refine kJ ?_ (by size_fits)
 simp only[raiseNew];refine av (wpAny_handled ?_);rw[show A.in1.handled=none from hh]
 refine av (aO (wpAny_throw ?_));refine av (wpAny_isInstance (T := "StopIteration") (b:=true) ⟨_,eU _ rfl,rfl⟩ isSubtype_stop ?_)
 exact aO (hQ _ (((Heap.SameBut.update ..).extBut.push _).push _))
end
section
variable {X:Cx}
theorem Mz(hc:X.calm=true):gp X (.builtin "all") (fun xs H Q=>∃(p:Addr) (bs:List Bool),xs=[.ref p]∧bw X.K H p (bs.map V.bl)∧Q (.bl (bs.all id)) H):=by
 intro pins s σ H xs us Q I r h
 obtain⟨p,bs,rfl,hq,q⟩:=h
 obtain⟨u,rfl,rx⟩:=vals1 r
 cases rx
 obtain⟨its,rv,pl,hz⟩:=I.list hq
 have hlen:bs.length=its.length:=by simpa using rv.length
 have uO:p≠s.heap.objs.size:=by
  obtain⟨o,n,e,_⟩:=pl
  exact cK (bz e)
 refine call_all_walk (wpAny_pyIter_list pl.isList ?_)
 refine⟨s.heap.objs.size,_,_,_,_,_,fun i=>bs.getD i true,rfl,Walks.list (show X.A.in1.handled=none from I.ok.hd hc) s.heap.objs.size p uO its.toArray,⟨⟨_,eU _ rfl,rfl,rfl⟩,?_⟩,fun i v s' Q' E' hv Cw=>?_,fun h' tk kp=>?_⟩
 ·obtain⟨o,n,e,e2,e3,e4⟩:=pl
  exact⟨o,cy _ e,e2,n,e4⟩
 ·have cF:its[i]?=some v:=by simpa using hv
  have hi:i<its.length:=(bt.mp cF).1
  have hb:(bs.map V.bl)[i]?=some (V.bl (bs.getD i true)):=by
   rw[cE,bO (by omega),qV,bO (by omega)];rfl
  obtain⟨u,hu,ru⟩:=rv.get hb
  rw[cF]at hu
  cases hu
  cases (show v=Value.bool _ from ru)
  exact iO Cw
 ·have eb:(List.range its.toArray.size).all (fun i=>bs.getD i true)=bs.all id:=by
   rw[fY,←hlen]
   conv=>rhs;rw[←range_getD bs true]
   rw[List.all_map];rfl
  refine⟨.bl (bs.all id),H,?_,?_,q⟩
  ·have I1:Inv X pins σ H { s with heap:=s.heap.push { cls:=.type "list_iterator",data:=.fields #[.ref p,.int 0 0] },toks:=s.toks }:=I.kept fun b o e=>cy _ e
   refine I1.turned (it:=s.heap.objs.size) (fun b o hb e=>kp b o (by simpa using hb) e) (I.az.fresh (aR _)) (Nat.ne_of_gt I.lt) (.inr I.sz) (fun x c e=>?_) fun z hz=>?_
   ·obtain⟨v,o,ho,_⟩:=I.cell x c e
    exact cK (bz ho)
   ·exact cK (bz (I.pin z hz).1)
  ·rw[eb];rfl
noncomputable def Jv(K:PySem.W.Frag)(n:Nat)(t:gP):TG:=fun v σ H Q=>∃a xs,v=.ref a∧bw K H a xs∧xs.length=n∧t xs σ H Q
theorem Tg{es:List Expr}{k:Nat}{pos:Pos}{t:gP}{n:Nat}(hc:X.calm=true)(h:rg X es t)
  (hn:(assignEach es X.env).length=n:=by rfl) (B5:(assignEach es X.env).findIdx? (·.1)=none:=by rfl):PG X (.Tuple es k pos) (Jv X.K n t):=by
 intro pins s σ H v u Q I r hw
 obtain⟨a,xs,e1,hq,hl,hw⟩:=hw
 subst e1
 cases r
 obtain⟨its,rv,pl,hz⟩:=I.list hq
 rw[assign_Tuple]
 refine av (xV ?_)
 unfold unpack
 have hlen:(assignEach es X.env).length=its.toArray.size:=by rw[hn,←hl,rv.length];simp
 rw[hlen,B5]
 refine av (lS (PySem.W.kun_itemsOf (I.ok.hd hc) pl.isList fun h' hx=>?_))
 have I1:Inv X pins σ H { s with heap:=h' }:=I.kept (t':=s.toks) fun b o e=>hx b o (cK (bz e)) e
 exact h pins _ σ H xs _ Q I1 (by simpa using rv) hw
theorem Eg:∀{zs:List Str}{us:List Value},Vals (zs.map V.str) us→StrsAre us zs
 |[],_,.nil=>.nil
 |z::zs,_,.cons r t=>by
  obtain⟨tk,e⟩:=(show ∃t,_=Value.str z t from r)
  subst e
  exact .cons z tk (Eg t)
theorem QF:yr X "str.join" (fun x xs H Q=>∃(z:Str) (p:Addr) (ys:List Str),x=.str z∧xs=[.ref p]∧bw X.K H p (ys.map V.str)∧(ys.map (·.length)).sum+ys.length*z.length≤16777216∧Q (.str (Txt.join z ys)) H):=by
 intro pins s σ H x xs v us Q I rx r h
 obtain⟨z,p,ys,rfl,rfl,hq,hl,q⟩:=h
 obtain⟨u,rfl,ru⟩:=vals1 r
 cases ru
 obtain⟨tk,e⟩:=(show ∃t,v=Value.str z t from rx)
 subst e
 obtain⟨its,rv,pl,hz⟩:=I.list hq
 exact join_list pl.isList (by simpa using Eg rv) hl fun t' k=>⟨.str (Txt.join z ys),H,I.tok k,⟨_,rfl⟩,q⟩
mutual
inductive Dn (K:PySem.W.Frag)(H:Hp):V→PyData→Prop
 |non:Dn K H .non .none
 |bl (b:Bool):Dn K H (.bl b) (.bool b)
 |int (i:Int):Dn K H (.int i) (.int i)
 |str (x:Str):Dn K H (.str x) (.str x)
 |lst {a:Addr}{xs:List V}{ds:List PyData}:bw K H a xs→bG K H xs ds→Dn K H (.ref a) (.list ds)
 |tup {a:Addr}{xs:List V}{ds:List PyData}:bf K H a xs→bG K H xs ds→Dn K H (.ref a) (.tuple ds)
inductive bG (K:PySem.W.Frag)(H:Hp):List V→List PyData→Prop
 |nil:bG K H [] []
 |cons {v:V}{d:PyData}{vs:List V}{ds:List PyData}:Dn K H v d→bG K H vs ds→bG K H (v::vs) (d::ds)
end
noncomputable def dV:V→PyData
 |.non=>.none
 |.bl b=>.bool b
 |.int i=>.int i
 |.str x=>.str x
 |_=>.none
theorem Inv.F1{pins:List (Addr×Obj)}{σ:St}{H:Hp}{s:Shared}{a:Addr}{xs ys:List V}(I:Inv X pins σ H s)(h:bw X.K H a xs)(h':bf X.K H a ys):False:=by
 obtain⟨_,_,⟨o,n,e1,e2,_⟩,_⟩:=I.list h
 obtain⟨_,_,⟨o',k1,k2,_⟩,_⟩:=I.tuple h'
 rw[e1]at k1;cases k1;rw[e2]at k2;exact absurd k2 (by simp)
mutual
theorem Dn.unique{pins:List (Addr×Obj)}{σ:St}{H:Hp}{s:Shared}(I:Inv X pins σ H s):∀{v:V}{d d':PyData},Dn X.K H v d→Dn X.K H v d'→d=d'
 |_,_,_,.non,h=>by cases h;rfl
 |_,_,_,.bl _,h=>by cases h;rfl
 |_,_,_,.int _,h=>by cases h;rfl
 |_,_,_,.str _,h=>by cases h;rfl
 |_,_,_,.lst hq hs,h=>by
  cases h with
  |lst kq ks=>cases I.vE hq kq;rw[bG.unique I hs ks]
  |tup kq ks=>exact(I.F1 hq kq).elim
 |_,_,_,.tup hq hs,h=>by
  cases h with
  |tup kq ks=>cases I.zv hq kq;rw[bG.unique I hs ks]
  |lst kq ks=>exact(I.F1 kq hq).elim
theorem bG.unique{pins:List (Addr×Obj)}{σ:St}{H:Hp}{s:Shared}(I:Inv X pins σ H s):∀{vs:List V}{ds mq:List PyData},bG X.K H vs ds→bG X.K H vs mq→ds=mq
 |_,_,_,.nil,h=>by cases h;rfl
 |_,_,_,.cons h t,k=>by
  cases k with
  |cons h' t'=>rw[Dn.unique I h h',bG.unique I t t']
end
mutual
theorem Dn.refl{K:PySem.W.Frag}{H:Hp}:∀{v:V}{d:PyData},Dn K H v d→PyData.eqv d d=true
 |_,_,.non=>by simp[PyData.eqv]
 |_,_,.bl _=>by simp[PyData.eqv]
 |_,_,.int _=>by simp[PyData.eqv]
 |_,_,.str _=>by simp[PyData.eqv]
 |_,_,.lst _ hs=>by simp only[PyData.eqv];exact bG.refl hs
 |_,_,.tup _ hs=>by simp only[PyData.eqv];exact bG.refl hs
theorem bG.refl{K:PySem.W.Frag}{H:Hp}:∀{vs:List V}{ds:List PyData},bG K H vs ds→PyData.eqvAll ds ds=true
 |_,_,.nil=>by simp[PyData.eqvAll]
 |_,_,.cons h t=>by rw[PyData.eqvAll,Dn.refl h,bG.refl t];rfl
end
theorem bG.length{K:PySem.W.Frag}{H:Hp}:∀{vs:List V}{ds:List PyData},bG K H vs ds→vs.length=ds.length
 |_,_,.nil=>rfl
 |_,_,.cons _ t=>by simp[bG.length t]
theorem PlainL.f9{h:Heap}{a:Addr}{its:Array Value}(x:PlainL h a its):h.IsList a its:=x.isList
mutual
theorem Dn.kx{pins:List (Addr×Obj)}{σ:St}{H:Hp}{s:Shared}(I:Inv X pins σ H s):∀{v:V}{d:PyData},Dn X.K H v d→∀{v':V}{d':PyData},Dn X.K H v' d'→∀{u u':Value},RelV v u→RelV v' u'→∀{A:Around},A.units+min d.depth d'.depth<cLine→SeqAt.EqAt A s u u' (PyData.eqv d d')
 |_,_,.non,_,_,h',_,_,r,r',A,hu=>by
  cases (show _=Value.none from r)
  cases h' with
  |non=>cases (show _=Value.none from r');exact qR _
  |bl y=>cases (show _=Value.bool y from r');exact SeqAt.EqAt.none_bool y
  |int y=>obtain⟨t,e⟩:=(show ∃t,_=Value.int y t from r');subst e;exact BD y t
  |str y=>obtain⟨t,e⟩:=(show ∃t,_=Value.str y t from r');subst e;exact BE y t
  |@lst a xs ds q hs=>cases (show _=Value.ref a from r');obtain⟨its,rv,pl,_⟩:=I.list q;exact SeqAt.EqAt.none_list pl.isList (cA hu)
  |@tup a xs ds q hs=>cases (show _=Value.ref a from r');obtain⟨its,rv,pl,_⟩:=I.tuple q;exact SeqAt.EqAt.none_tuple pl (cA hu)
 |_,_,.bl x,_,_,h',_,_,r,r',A,hu=>by
  cases (show _=Value.bool x from r)
  cases h' with
  |non=>cases (show _=Value.none from r');exact SeqAt.EqAt.bool_none x
  |bl y=>cases (show _=Value.bool y from r');exact SeqAt.EqAt.bool_bool x y
  |int y=>obtain⟨t,e⟩:=(show ∃t,_=Value.int y t from r');subst e;exact SeqAt.EqAt.bool_int x y t
  |str y=>obtain⟨t,e⟩:=(show ∃t,_=Value.str y t from r');subst e;exact SeqAt.EqAt.bool_str x y t
  |@lst a xs ds q hs=>cases (show _=Value.ref a from r');obtain⟨its,rv,pl,_⟩:=I.list q;exact SeqAt.EqAt.bool_list x pl.isList (cA hu)
  |@tup a xs ds q hs=>cases (show _=Value.ref a from r');obtain⟨its,rv,pl,_⟩:=I.tuple q;exact SeqAt.EqAt.bool_tuple x pl (cA hu)
 |_,_,.int x,_,_,h',_,_,r,r',A,hu=>by
  obtain⟨tx,ex⟩:=(show ∃t,_=Value.int x t from r);subst ex
  cases h' with
  |non=>cases (show _=Value.none from r');exact Bx x tx
  |bl y=>cases (show _=Value.bool y from r');exact SeqAt.EqAt.int_bool x tx y
  |int y=>obtain⟨t,e⟩:=(show ∃t,_=Value.int y t from r');subst e;exact SeqAt.EqAt.int_int x tx y t
  |str y=>obtain⟨t,e⟩:=(show ∃t,_=Value.str y t from r');subst e;exact Bw x tx y t
  |@lst a xs ds q hs=>cases (show _=Value.ref a from r');obtain⟨its,rv,pl,_⟩:=I.list q;exact SeqAt.EqAt.int_list x tx pl.isList (cA hu)
  |@tup a xs ds q hs=>cases (show _=Value.ref a from r');obtain⟨its,rv,pl,_⟩:=I.tuple q;exact SeqAt.EqAt.int_tuple x tx pl (cA hu)
 |_,_,.str x,_,_,h',_,_,r,r',A,hu=>by
  obtain⟨tx,ex⟩:=(show ∃t,_=Value.str x t from r);subst ex
  cases h' with
  |non=>cases (show _=Value.none from r');exact Bz x tx
  |bl y=>cases (show _=Value.bool y from r');exact SeqAt.EqAt.str_bool x tx y
  |int y=>obtain⟨t,e⟩:=(show ∃t,_=Value.int y t from r');subst e;exact By x tx y t
  |str y=>obtain⟨t,e⟩:=(show ∃t,_=Value.str y t from r');subst e;exact SeqAt.EqAt.str_str x tx y t
  |@lst a xs ds q hs=>cases (show _=Value.ref a from r');obtain⟨its,rv,pl,_⟩:=I.list q;exact SeqAt.EqAt.str_list x tx pl.isList (cA hu)
  |@tup a xs ds q hs=>cases (show _=Value.ref a from r');obtain⟨its,rv,pl,_⟩:=I.tuple q;exact SeqAt.EqAt.str_tuple x tx pl (cA hu)
 |_,_,.lst (a:=b) hq hs,_,_,h',_,_,r,r',A,hu=>by
  cases (show _=Value.ref b from r)
  obtain⟨gb,rb,dm,_⟩:=I.list hq
  cases h' with
  |non=>cases (show _=Value.none from r');exact SeqAt.EqAt.list_none dm.isList (cA hu)
  |bl y=>cases (show _=Value.bool y from r');exact SeqAt.EqAt.list_bool y dm.isList (cA hu)
  |int y=>obtain⟨t,e⟩:=(show ∃t,_=Value.int y t from r');subst e;exact SeqAt.EqAt.list_int y t dm.isList (cA hu)
  |str y=>obtain⟨t,e⟩:=(show ∃t,_=Value.str y t from r');subst e;exact SeqAt.EqAt.list_str y t dm.isList (cA hu)
  |@tup a xs ds q ks=>cases (show _=Value.ref a from r');obtain⟨its,rv,pl,_⟩:=I.tuple q;exact SeqAt.EqAt.list_tuple dm.isList pl (cA hu)
  |@lst a xs ds q ks =>
   cases (show _=Value.ref a from r')
   by_cases e:b=a
   ·subst e
    cases I.vE hq q
    rw[bG.unique I ks hs]
    simp only[PyData.eqv];rw[bG.refl hs];exact qR _
   ·obtain⟨its,rv,pl,_⟩:=I.list q
    have n1:=rb.length;have n2:=rv.length;have n3:=bG.length hs;have n4:=bG.length ks
    simp only[PyData.eqv]
    have he:∀j (j1:j<gb.toArray.size) (j2:j<its.toArray.size),SeqAt.EqAt A.in1 s gb.toArray[j] its.toArray[j] (SeqAt.pairEq _ _ j):=fun j j1 j2=>by
     have z:=bG.kx I hs ks rb rv (A:=A.in1) (yb hu) j (by simpa using j1) (by simpa using j2)
     simpa using z
    refine SeqAt.EqAt.of_refs e ?_
    by_cases hsz:gb.toArray.size=its.toArray.size
    ·rw[←SeqAt.eqvAll_same_length (by simp at hsz;omega),show List.length _=gb.toArray.size by simp;omega]
     exact SeqAt.RcAt.lists dm.isList pl.isList hsz (cA hu) he
    ·rw[SeqAt.eqvAll_other_length (by simp at hsz;omega)]
     exact SeqAt.RcAt.lists_lengths dm.isList pl.isList (by simpa using hsz) (cA hu)
 |_,_,.tup (a:=b) hq hs,_,_,h',_,_,r,r',A,hu=>by
  cases (show _=Value.ref b from r)
  obtain⟨gb,rb,dm,_⟩:=I.tuple hq
  cases h' with
  |non=>cases (show _=Value.none from r');exact SeqAt.EqAt.tuple_none dm (cA hu)
  |bl y=>cases (show _=Value.bool y from r');exact SeqAt.EqAt.tuple_bool y dm (cA hu)
  |int y=>obtain⟨t,e⟩:=(show ∃t,_=Value.int y t from r');subst e;exact SeqAt.EqAt.tuple_int y t dm (cA hu)
  |str y=>obtain⟨t,e⟩:=(show ∃t,_=Value.str y t from r');subst e;exact SeqAt.EqAt.tuple_str y t dm (cA hu)
  |@lst a xs ds q ks=>cases (show _=Value.ref a from r');obtain⟨its,rv,pl,_⟩:=I.list q;exact SeqAt.EqAt.tuple_list dm pl.isList (cA hu)
  |@tup a xs ds q ks =>
   cases (show _=Value.ref a from r')
   by_cases e:b=a
   ·subst e
    cases I.zv hq q
    rw[bG.unique I ks hs]
    simp only[PyData.eqv];rw[bG.refl hs];exact qR _
   ·obtain⟨its,rv,pl,_⟩:=I.tuple q
    have n1:=rb.length;have n2:=rv.length;have n3:=bG.length hs;have n4:=bG.length ks
    simp only[PyData.eqv]
    have he:∀j (j1:j<gb.toArray.size) (j2:j<its.toArray.size),SeqAt.EqAt A.in1 s gb.toArray[j] its.toArray[j] (SeqAt.pairEq _ _ j):=fun j j1 j2=>by
     have z:=bG.kx I hs ks rb rv (A:=A.in1) (yb hu) j (by simpa using j1) (by simpa using j2)
     simpa using z
    refine SeqAt.EqAt.of_refs e ?_
    rw[←SeqAt.eqvAll_eq,←n3,←n4,n1,n2]
    have z:=SeqAt.RcAt.tuples dm pl (cA hu) he
    simpa using z
theorem bG.kx{pins:List (Addr×Obj)}{σ:St}{H:Hp}{s:Shared}(I:Inv X pins σ H s):∀{vs:List V}{ds:List PyData},bG X.K H vs ds→∀{mr:List V}{mq:List PyData},bG X.K H mr mq→∀{us Cy:List Value},Vals vs us→Vals mr Cy→∀{A:Around},A.units+min (PyData.depthAll ds) (PyData.depthAll mq)<cLine →
  ∀j (h1:j<us.length) (h2:j<Cy.length),SeqAt.EqAt A s us[j] Cy[j] (SeqAt.pairEq ds mq j)
 |_,_,.nil,_,_,_,_,_,.nil,_,_,_,j,h1,_=>absurd h1 (BX _)
 |_,_,.cons _ _,_,_,.nil,_,_,_,.nil,_,_,j,_,h2=>absurd h2 (BX _)
 |_,_,.cons h t,_,_,.cons h' t',_,_,.cons r q,.cons r' q',A,hu,j,h1,h2=>by
  cases j with
  |zero=>exact Dn.kx I h h' r r' (SeqAt.room_head hu)
  |succ j=>exact bG.kx I t t' q q' (SeqAt.room_tail hu) j (Nat.lt_of_succ_lt_succ h1) (Nat.lt_of_succ_lt_succ h2)
end
inductive oH:PyData→PyData→Prop
 |lst (xs ys:List PyData):oH (.list xs) (.list ys)
 |tup (xs ys:List PyData):oH (.tuple xs) (.tuple ys)
 |non:oH .none .none
noncomputable def A8(K:PySem.W.Frag):R2:=fun x y H Q=>∃dx dy,Dn K H x dx∧Dn K H y dy∧oH dx dy∧min dx.depth dy.depth≤60∧Q (.bl (PyData.eqv dx dy)) H
noncomputable def A9(K:PySem.W.Frag):R2:=fun x y H Q=>∃dx dy,Dn K H x dx∧Dn K H y dy∧oH dx dy∧min dx.depth dy.depth≤60∧Q (.bl (!PyData.eqv dx dy)) H
theorem E8{pins:List (Addr×Obj)}{σ:St}{H:Hp}{s:Shared}(I:Inv X pins σ H s){A:Around}{x y:V}{u u':Value}{dx dy:PyData}(hx:Dn X.K H x dx)(hy:Dn X.K H y dy)(l:oH dx dy)(rx:RelV x u)(ry:RelV y u')(hu:A.units+min dx.depth dy.depth<cLine) :
  SeqAt.RcAt A s u u' (PyData.eqv dx dy)∧SeqAt.RcNeAt A s u u' (!PyData.eqv dx dy):=by
 cases l with
 |non =>
  cases hx;cases hy
  cases (show u=Value.none from rx)
  cases (show u'=Value.none from ry)
  exact⟨SeqAt.RcAt.none_none,SeqAt.RcNeAt.none_none⟩
 |lst ds es =>
  cases hx with
  |@lst b _ _ hq hs =>
  cases hy with
  |@lst a _ _ q ks =>
   cases (show u=Value.ref b from rx)
   cases (show u'=Value.ref a from ry)
   obtain⟨gb,rb,dm,_⟩:=I.list hq
   obtain⟨its,rv,pl,_⟩:=I.list q
   have n1:=rb.length;have n2:=rv.length;have n3:=bG.length hs;have n4:=bG.length ks
   simp only[PyData.eqv]
   have he:∀j (j1:j<gb.toArray.size) (j2:j<its.toArray.size),SeqAt.EqAt A.in1 s gb.toArray[j] its.toArray[j] (SeqAt.pairEq ds es j):=fun j j1 j2=>by
    have z:=bG.kx I hs ks rb rv (A:=A.in1) (yb hu) j (by simpa using j1) (by simpa using j2)
    simpa using z
   by_cases hsz:gb.toArray.size=its.toArray.size
   ·have e:ds.length=gb.toArray.size:=by simp;omega
    rw[←SeqAt.eqvAll_same_length (show ds.length=es.length by simp at hsz;omega),e]
    exact⟨SeqAt.RcAt.lists dm.isList pl.isList hsz (cA hu) he,SeqAt.RcNeAt.lists dm.isList pl.isList hsz (cA hu) he⟩
   ·rw[SeqAt.eqvAll_other_length (show ds.length≠es.length by simp at hsz;omega)]
    exact⟨SeqAt.RcAt.lists_lengths dm.isList pl.isList (by simpa using hsz) (cA hu),SeqAt.RcNeAt.lists_lengths dm.isList pl.isList (by simpa using hsz) (cA hu)⟩
 |tup ds es =>
  cases hx with
  |@tup b _ _ hq hs =>
  cases hy with
  |@tup a _ _ q ks =>
   cases (show u=Value.ref b from rx)
   cases (show u'=Value.ref a from ry)
   obtain⟨gb,rb,dm,_⟩:=I.tuple hq
   obtain⟨its,rv,pl,_⟩:=I.tuple q
   have n1:=rb.length;have n2:=rv.length;have n3:=bG.length hs;have n4:=bG.length ks
   simp only[PyData.eqv]
   have he:∀j (j1:j<gb.toArray.size) (j2:j<its.toArray.size),SeqAt.EqAt A.in1 s gb.toArray[j] its.toArray[j] (SeqAt.pairEq ds es j):=fun j j1 j2=>by
    have z:=bG.kx I hs ks rb rv (A:=A.in1) (yb hu) j (by simpa using j1) (by simpa using j2)
    simpa using z
   have z1:=SeqAt.RcAt.tuples dm pl (cA hu) he
   have z2:=SeqAt.RcNeAt.tuples dm pl (cA hu) he
   rw[←SeqAt.eqvAll_eq ds es,←n3,←n4,n1,n2]
   exact⟨by simpa using z1,by simpa using z2⟩
theorem Ti(hu:X.A.units+64<cLine):bA X (compareOp .Eq) (A8 X.K):=by
 intro pins s σ H x y v u Q I rx ry h
 obtain⟨dx,dy,hx,hy,l,hd,q⟩:=h
 exact(E8 I hx hy l rx ry (A:=X.A) (by omega)).1 X.prog X.w X.xe _ ⟨.bl _,H,I,rfl,q⟩
theorem Tj(hu:X.A.units+64<cLine):bA X (compareOp .NotEq) (A9 X.K):=by
 intro pins s σ H x y v u Q I rx ry h
 obtain⟨dx,dy,hx,hy,l,hd,q⟩:=h
 exact(E8 I hx hy l rx ry (A:=X.A) (by omega)).2 X.prog X.w X.xe _ ⟨.bl _,H,I,rfl,q⟩
end
def wK(D:Addr)(H H':Hp):Prop:=∀b o,b≠D→H b=some o→H' b=some o
theorem wK.trans{D:Addr}{H H1 H2:Hp}(a:wK D H H1)(b:wK D H1 H2):wK D H H2:=fun c o h e=>b c o h (a c o h e)
section
variable {X:Cx}{K:PySem.W.Frag}
theorem vP(h:X.K=K):jL X (rn K):=by subst h;exact S9
theorem M4(h:X.K=K):bA X (compareOp .In) (Ce K false):=by subst h;exact Nx
theorem NK(h:X.K=K):gp X (.builtin "len") (fun xs H Q=>∃x n,xs=[x]∧AX K x H n∧Q (.int n) H):=by subst h;exact OQ
theorem NP{a:Expr}{ta:TE}(h:X.K=K)(ha:PE X a ta)(he:∀whole,isTrue a X.env whole=(do let v ←whole;standAt a.pos;holding [v] (truthy v))):PT X a (fun σ H Q=>ta σ H fun x H'=>∃k,xq K x H' k∧Q k H'):=by subst h;exact OL ha he
theorem O4{tg l:Expr}{tl:TE}(h:X.K=K)(hl:PE X l tl):PI X tg l (Ax K tl):=by subst h;exact Qm hl
end
end L2
namespace My
open PySem PySem.Spec PyProof.Rows L2
theorem aA.none{H H':Hp}{p:Addr}(s:aA H H')(h:H' p=none):H p=none:=s.free h
theorem WL{σ:L2.St}{H:Hp}{A B:Hp→Prop}(h:A H):xx σ H fun b H3=>if b=true then A H3 else B H3:=by
 show if true=true then A H else B H
 exact WG h
theorem Paired.at{α β:Type}{F:α→β→Prop}:∀{l:List α}{m:List β},Paired F l m→∀{i:Nat}{b:β},m[i]?=some b→∃a,l[i]?=some a∧F a b
 |_,_,.nil,_,_,h=>by simp at h
 |_,_,.cons r t,0,_,h=>by simp at h;subst h;exact⟨_,rfl,r⟩
 |_,_,.cons r t,i+1,b,h=>by
  obtain⟨a,e,q⟩:=Paired.at t (i:=i) (b:=b) (by simpa using h)
  exact⟨a,by simpa using e,q⟩
inductive Rw where
 |reckon (x s:Str) (a b:Key)|copy (x:Str) (a:Key)|say (a:Key)|go (n:Int)|part (a:Key) (n:Int)|fin
noncomputable def Rw.vs:Rw→List V
 |.reckon x s a b=>[.str "reckon",.str x,.str s,kV a,kV b]
 |.copy x a=>[.str "copy",.str x,kV a]
 |.say a=>[.str "say",kV a]
 |.go n=>[.str "go",.int n]
 |.part a n=>[.str "part",kV a,.int n]
 |.fin=>[.str "end"]
noncomputable def Rw.word:Rw→Str
 |.reckon .. => "reckon" |.copy .. => "copy" |.say _ => "say" |.go _ => "go" |.part .. => "part" |.fin => "end"
noncomputable def Rw.rk:Rw→Option (List Key)
 |.reckon _ s a b=>some [.inr s,a,b]|_=>none
theorem n1:¬(("copy" : Str) = "reckon"):=by decide +kernel
theorem n2:¬(("say" : Str) = "reckon"):=by decide +kernel
theorem n3:¬(("go" : Str) = "reckon"):=by decide +kernel
theorem n4:¬(("part" : Str) = "reckon"):=by decide +kernel
theorem take_snoc{α:Type}{l:List α}{i:Nat}{x:α}(h:l[i]?=some x):l.take (i+1)=l.take i++[x]:=by
 rw[List.take_add_one,h];rfl
structure Df (K:PySem.W.Frag)(mg:Str→Option Value)(x:Str)(st:Stmt)(ps:List Str)(f:Addr)(fd:FuncData):Prop where
 mg:mg x=some (.ref f)
 fn:rA K x x st f fd
 bd:Binds K fd ps []
end My
namespace L2
open PySem PySem.Spec PyProof.Rows
noncomputable def yx(z:Str):It:=⟨fun i _=>i<z.cps.size,fun i H x H'=>H'=H∧∃c,z.cps[i]?=some c∧x=.str ⟨#[c]⟩,fun i _=>z.cps.size≤i⟩
theorem O6 {P:Program}{w:World}{K:PySem.W.Frag}{tg:Expr} (it:Addr) (x:Str) (t:Tok) (ty:String) (jN:ty = "str_ascii_iterator" ∨ ty = "str_iterator"):Turn P w K tg (yx x) [it] it (fun i h=>h.IsStrIter it ty x t i) where
 mem:=by simp
 obj:=fun i h st b hb=>by
  have e:b=it:=by simpa using hb
  subst e
  obtain⟨o,e,c,d⟩:=st
  exact⟨o,e,fun v z=>by rw[d]at z;cases z⟩
 keep:=fun i h h' st k=>by obtain⟨o,e,r⟩:=st;exact⟨o,k it (by simp) o e,r⟩
 item:=by
  intro X hP hw hK hc i pins s σ H E I hf st hg
  subst hP hw hK
  have hi:i<x.cps.size:=hg
  obtain⟨f0,f1,f2,f3,f4,f5⟩:=hf it (by simp)
  have fin:∀h',h'.IsStrIter it ty x t (i+1)→Heap.SameBut it s.heap h'→∃u,some (Value.str ⟨#[x.cps[i]]⟩ s.toks)=some u ∧
    wpAny (model X.prog X.w) X.A (letOwnedTupleGo tg (.ref it) u) (fun _ s2=>∃y H',Inv X pins σ H' s2∧RelV y u∧(yx x).hX i H y H'∧s2.heap.IsStrIter it ty x t (i+1)∧∀b∈[it],H' b=none) E { s with heap:=h',toks:=s.toks+1 }:=fun h' gA sb=>by
   have I1:Inv X pins σ H { s with heap:=h',toks:=s.toks+1 }:=I.turned (fun b o hb e=>(sb.2 b hb).trans e) f0 f1 f3 f4 f5
   obtain⟨o,e,c,d⟩:=id gA
   refine⟨_,rfl,sY (s:={ s with heap:=h',toks:=s.toks+1 }) e c d (by rcases jN with q|q<;>(rw[q];decide)) ⟨.str ⟨#[x.cps[i]]⟩,H,I1,⟨_,rfl⟩,⟨rfl,x.cps[i],by simp[hi],rfl⟩,gA,fun b hb=>(hf b hb).1⟩⟩
  rcases jN with q|q
  ·subst q;exact wpAny_pyNext_ascii_item st (c:=x.cps[i]) (by simp[hi]) fin
  ·subst q;exact wpAny_pyNext_wide_item st (c:=x.cps[i]) (by simp[hi]) fin
 done:=by
  intro X hP hw hK hc i pins s σ H E I hf st hg
  subst hP hw hK
  have hi:x.cps.size≤i:=hg
  obtain⟨f0,f1,f2,f3,f4,f5⟩:=hf it (by simp)
  have fin:∀h',Heap.ExtBut it s.heap h'→(none:Option Value)=none∧Inv X pins σ H { s with heap:=h' }:=fun h' eb=>⟨rfl,I.turned (t':=s.toks) (fun b o hb e=>eb b o hb e) f0 f1 f3 f4 f5⟩
  rcases jN with q|q
  ·subst q;exact wpAny_pyNext_ascii_end (I.ok.hd hc) st (by simp[hi]) fin
  ·subst q;exact wpAny_pyNext_wide_end (I.ok.hd hc) st (by simp[hi]) fin
 self:=fun _ _ _ _ _ st h=>by
  rcases jN with q|q
  ·subst q;exact wpAny_pyIter_striter_ascii st h
  ·subst q;exact wpAny_pyIter_striter_wide st h
section
variable {X:Cx}{tg:Expr}
noncomputable def Jw(tl:TE):TI:=fun σ H R=>tl σ H fun x H1=>∃z,x=.str z∧R (yx z) H1
theorem Tn{l:Expr}{tl:TE}(hl:PE X l tl):PI X tg l (Jw tl):=by
 intro pins s σ H R I h
 refine aC (hl pins s σ H _ I h) fun v s1 ⟨x,H1,I1,r1,q1⟩=>?_
 obtain⟨z,e,q⟩:=q1
 subst e
 obtain⟨t,e⟩:=(show ∃t,v=Value.str z t from r1)
 subst e
 have jN:strIterType z = "str_ascii_iterator" ∨ strIterType z = "str_iterator" := by unfold strIterType;split<;>simp
 refine wpAny_pyIter_strU ?_
 refine⟨s1.heap.objs.size,[s1.heap.objs.size],_,_,H1,rfl,I1.kept (t':=s1.toks) fun b o e=>cy _ e,O6 s1.heap.objs.size z t _ jN,⟨_,eU _ rfl,rfl,rfl⟩,fun b hb=>?_,q⟩
 have e:b=s1.heap.objs.size:=by simpa using hb
 subst e
 exact I1.oF (aR _) (I1.az.fresh (aR _))
theorem Tp:kU X (fun x lo hi H Q=>∃z:Str,x=.str z∧z.length≤sizeLine∧Q (.str (Txt.slice z lo hi)) H):=by
 intro pins s σ H x v vl vu lo hi sl Q I rx hs pl pu h
 obtain⟨z,rfl,hz,q⟩:=h
 obtain⟨t,e⟩:=(show ∃t,v=Value.str z t from rx)
 subst e
 have fin:∀t' k,EP X pins σ Q (.str (Txt.slice z lo hi) t') { s with toks:=k }:=fun t' k=>⟨.str (Txt.slice z lo hi),H,I.tok k,⟨_,rfl⟩,q⟩
 refine⟨"str",_,F.slot_str_getitem.lookup,typeIs_str _ _ _,?_⟩
 cases pl with
 |none =>
  cases pu with
  |none=>exact yc (l:=none) (u:=none) (st:=none) hs rfl (yd ⟨bQ (ye z _ _) hz,fin⟩)
  |int j tj=>exact yc (l:=none) (u:=some (j,tj)) (st:=none) hs rfl (yd ⟨bQ (ye z _ _) hz,fin⟩)
 |int i ti =>
  cases pu with
  |none=>exact yc (l:=some (i,ti)) (u:=none) (st:=none) hs rfl (yd ⟨bQ (ye z _ _) hz,fin⟩)
  |int j tj=>exact yc (l:=some (i,ti)) (u:=some (j,tj)) (st:=none) hs rfl (yd ⟨bQ (ye z _ _) hz,fin⟩)
theorem O7{prog:Program}{w:World}{A:Around}{E:Value→Shared→Prop}{s:Shared}{t b:Addr}{ws:List Value}{Q:Value→Shared→Prop}(ht:IsTup s.heap t ([]:List Value).toArray)(hb:IsTup s.heap b ws.toArray)(h:Q (.ref b) s):wpAny (model prog w) A (binaryOp .Add (.ref t) (.ref b)) Q E s:=by
 obtain⟨⟨c1,d1,Zq,pC⟩,ho,hc,n,hd⟩:=id ht;obtain⟨⟨c2,d2,Zr,rj⟩,jK,mh,n2,hd2⟩:=id hb
 simp only at hc hd mh hd2;subst hc hd mh hd2
 exact x4 ⟨_,ho,rfl⟩ ⟨_,jK,rfl⟩ BJ seq_tuple_add BK BL (BM _ _) (tuple_addW0 t b ([]:List Value).toArray ws.toArray n n2 d1 d2 pC rj (by simp)) ⟨ho,jK,h⟩
theorem Mq{prog:Program}{w:World}{A:Around}{E:Value→Shared→Prop}{s:Shared}{t sl:Addr}{items:Array Value}{vl vu:Value}{lo hi:Option Int}{Q:Value→Shared→Prop}(ht:IsTup s.heap t items)(hs:s.heap.IsSliceOf sl vl vu .none)(pl:IsPart vl lo)(pu:IsPart vu hi)
  (h0:HT.aS items.size 0 lo=0) (h1:HT.aS items.size items.size hi=items.size) (h:Q (.ref t) s):wpAny (model prog w) A (getItem (.ref t) (.ref sl)) Q E s:=by
 obtain⟨os,pj,fN,uI⟩:=id hs;have Cd:s.TypeIs (.ref sl) "slice" := ⟨os,pj,fN⟩
 unfold getItem;try with_reducible refine lS ?_
 first|refine av (aO ?_)|skip
 refine av (wpAny_sequenceKey ht.typeIs (by decide) ?_);refine av (x5 (name:=Str.ofString "__getitem__") ht.typeIs qS (oT qS ht.typeIs entry_tuple_getitem ?_ (args_tuple_getitem _ _)))
 show wpAny _ _ (Builtin.Tuple.tupleItemsOf (.ref t) >>= _) _ _ s;refine av (tupleItemsOf_ ht ?_);refine av (wpAny_typeOf Cd ?_)
 rw[if_pos (by decide)];refine av (HT.DP hs pl pu ?_)
 show wpAny _ _ (if (((HT.aS items.size 0 lo:Nat):Int)==0&&(1:Int)==1&&(HT.aS items.size items.size hi-HT.aS items.size 0 lo)==items.size)=true then _ else _) _ _ s
 rw[if_pos (by rw[h0,h1];simp)]
 refine av ?_;unfold Builtin.Tuple.tupleIsExact;refine av (wpAny_typeOf ht.typeIs ?_)
 refine aO ?_;rw[if_pos (by decide)]
 first
  |exact av (wpAny_rule (aO ⟨_,rfl,aO h⟩))
  |exact av (wpAny_rule (av (aO (aO ⟨_,rfl,aO h⟩))))
  |exact av (av (wpAny_rule (aO (aO ⟨_,rfl,aO h⟩))))
end
section
variable {X:Cx}{pins:List (Addr×Obj)}{σ:St}{H:Hp}{s:Shared}{A:Around}{E:Value→Shared→Prop}
def sv(H:Hp)(ys:List V)(ps:List (Key×V)):Prop:=Paired (fun(v:V) (kv:Key×V)=>∃a,v=.ref a∧H a=some (.tup [kV kv.1,kv.2])) ys ps
theorem sv.at{ys:List V}{ps:List (Key×V)}(h:sv H ys ps):∀{i:Nat},i<ys.length→∃a kv,ys[i]?=some (.ref a)∧ps[i]?=some kv∧H a=some (.tup [kV kv.1,kv.2]):=by
 induction h with
 |nil=>intro i hi;exact absurd hi (BX i)
 |@cons v kv ys ps hv t ih =>
  intro i hi
  cases i with
  |zero=>obtain⟨a,rfl,ha⟩:=hv;exact⟨a,kv,rfl,rfl,ha⟩
  |succ i=>exact ih (by simpa using hi)
theorem sv.put{ys:List V}{ps:List (Key×V)}{d:Addr}{kvs WM:List (Key×V)}(h:sv H ys ps)(hd:H d=some (.dK kvs)):sv (upd H d (.dK WM)) ys ps:=by
 induction h with
 |nil=>exact .nil
 |@cons v kv ys ps hv t ih =>
  obtain⟨a,rfl,ha⟩:=hv
  refine .cons ⟨a,rfl,?_⟩ ih
  rw[ay (fun z=>by rw[z,hd]at ha;cases ha)];exact ha
end
end L2
set_option maxHeartbeats 4000000
namespace J
open PySem L2
inductive D where
 |non|bl (b:Bool)|int (i:Int)|str (x:Str)|ty (n:String)
 |tup (ds:List D)|lst (ds:List D)|dk (ks:List (Key×D))|dt (ks:List (List Key×D))
mutual
noncomputable def D.bx:D→Bool
 |.tup ds=>D.bH ds
 |.lst _=>false
 |.dk _=>false
 |.dt _=>false
 |.non=>true
 |.bl _=>true
 |.int _=>true
 |.str _=>true
 |.ty _=>true
noncomputable def D.bH:List D→Bool
 |[]=>true
 |d::ds=>d.bx&&D.bH ds
end
def yy(K:PySem.W.Frag)(a:Addr)(xs:List V):Prop:=∃(o:Obj) (its:Array Value) (n:Nat),K.lookup a=some o∧o.cls=.type "list" ∧ o.dict=none∧o.data=.seq its n∧its.size≤sizeLine∧Vals xs its.toList
mutual
inductive Rp (K:PySem.W.Frag)(N:Addr→Prop)(H:Hp):V→D→Prop
 |non:Rp K N H .non .non
 |bl (b:Bool):Rp K N H (.bl b) (.bl b)
 |int (i:Int):Rp K N H (.int i) (.int i)
 |str (x:Str):Rp K N H (.str x) (.str x)
 |ty (n:String):Rp K N H (.ty n) (.ty n)
 |tup {a:Addr}{xs:List V}{ds:List D}:bf K H a xs→aq K N H xs ds→Rp K N H (.ref a) (.tup ds)
 |lst {a:Addr}{xs:List V}{ds:List D}:Rd H a (.lst xs)→N a→aq K N H xs ds→Rp K N H (.ref a) (.lst ds)
 |lstK {a:Addr}{xs:List V}{ds:List D}:yy K a xs→aq K N H xs ds→Rp K N H (.ref a) (.lst ds)
 |dk {a:Addr}{kvs:List (Key×V)}{ks:List (Key×D)}:Rd H a (.dK kvs)→N a→kvs.map (·.1)=ks.map (·.1)→aq K N H (kvs.map (·.2)) (ks.map (·.2))→Rp K N H (.ref a) (.dk ks)
 |dt {a:Addr}{kvs:List (List Key×V)}{ks:List (List Key×D)}:Rd H a (.dT kvs)→N a→kvs.map (·.1)=ks.map (·.1)→aq K N H (kvs.map (·.2)) (ks.map (·.2))→Rp K N H (.ref a) (.dt ks)
inductive aq (K:PySem.W.Frag)(N:Addr→Prop)(H:Hp):List V→List D→Prop
 |nil:aq K N H [] []
 |cons {v:V}{d:D}{vs:List V}{ds:List D}:Rp K N H v d→aq K N H vs ds→aq K N H (v::vs) (d::ds)
end
noncomputable def fP:HO→Prop
 |.tup _=>True
 |.aK _ (.tup _)=>True
 |_=>False
def Keeps(N:Addr→Prop)(H H':Hp):Prop:=∀a o,H a=some o→(N a∨fP o)→H' a=some o
section
variable {K:PySem.W.Frag}{N N':Addr→Prop}{H H':Hp}
theorem Keeps.same(s:aA H H'):Keeps N H H':=fun a o e _=>s a o e
theorem Keeps.sq{a:Addr}{xs:List V}(k:Keeps N H H')(h:bf K H a xs):bf K H' a xs:=by
 rcases h with h|h
 ·exact .inl (k _ _ h (.inr trivial))
 ·exact .inr h
theorem Keeps.rd{a:Addr}{u:HO}(k:Keeps N H H')(n:N a)(h:Rd H a u):Rd H' a u:=by
 rcases h with h|⟨o,h⟩
 ·exact .inl (k _ _ h (.inl n))
 ·exact .inr ⟨o,k _ _ h (.inl n)⟩
mutual
theorem Rp.keep(k:Keeps N H H'):∀{v:V}{d:D},Rp K N H v d→Rp K N H' v d
 |_,_,.non=>.non
 |_,_,.bl b=>.bl b
 |_,_,.int i=>.int i
 |_,_,.str x=>.str x
 |_,_,.ty n=>.ty n
 |_,_,.tup h r=>.tup (k.sq h) (aq.keep k r)
 |_,_,.lst h n r=>.lst (k.rd n h) n (aq.keep k r)
 |_,_,.lstK h r=>.lstK h (aq.keep k r)
 |_,_,.dk h n e r=>.dk (k.rd n h) n e (aq.keep k r)
 |_,_,.dt h n e r=>.dt (k.rd n h) n e (aq.keep k r)
theorem aq.keep(k:Keeps N H H'):∀{vs:List V}{ds:List D},aq K N H vs ds→aq K N H' vs ds
 |_,_,.nil=>.nil
 |_,_,.cons h r=>.cons (Rp.keep k h) (aq.keep k r)
end
theorem Rd.some{a:Addr}{u:HO}(h:Rd H a u):∃o,H a=some o:=by
 rcases h with h|⟨o,h⟩
 ·exact⟨_,h⟩
 ·exact⟨_,h⟩
mutual
theorem Rp.wk(w:∀a,N a→(∃o,H a=some o)→N' a):∀{v:V}{d:D},Rp K N H v d→Rp K N' H v d
 |_,_,.non=>.non
 |_,_,.bl b=>.bl b
 |_,_,.int i=>.int i
 |_,_,.str x=>.str x
 |_,_,.ty n=>.ty n
 |_,_,.tup h r=>.tup h (aq.wk w r)
 |_,_,.lst h n r=>.lst h (w _ n (Rd.some h)) (aq.wk w r)
 |_,_,.lstK h r=>.lstK h (aq.wk w r)
 |_,_,.dk h n e r=>.dk h (w _ n (Rd.some h)) e (aq.wk w r)
 |_,_,.dt h n e r=>.dt h (w _ n (Rd.some h)) e (aq.wk w r)
theorem aq.wk(w:∀a,N a→(∃o,H a=some o)→N' a):∀{vs:List V}{ds:List D},aq K N H vs ds→aq K N' H vs ds
 |_,_,.nil=>.nil
 |_,_,.cons h r=>.cons (Rp.wk w h) (aq.wk w r)
end
mutual
theorem Rp.im:∀{v:V}{d:D},d.bx=true→Rp K N H v d→Rp K N' H v d
 |_,_,_,.non=>.non
 |_,_,_,.bl b=>.bl b
 |_,_,_,.int i=>.int i
 |_,_,_,.str x=>.str x
 |_,_,_,.ty n=>.ty n
 |_,.tup ds,e,.tup h r=>.tup h (aq.im (by simpa only[D.bx]using e) r)
 |_,.lst ds,e,.lst h n r=>by simp[D.bx]at e
 |_,.lst ds,e,.lstK h r=>by simp[D.bx]at e
 |_,.dk ds,e,.dk h n _ r=>by simp[D.bx]at e
 |_,.dt ds,e,.dt h n _ r=>by simp[D.bx]at e
theorem aq.im:∀{vs:List V}{ds:List D},D.bH ds=true→aq K N H vs ds→aq K N' H vs ds
 |_,_,_,.nil=>.nil
 |_,d::ds,e,.cons h r=>by
  have e':d.bx=true∧D.bH ds=true:=by simpa[D.bH]using e
  exact .cons (Rp.im e'.1 h) (aq.im e'.2 r)
end
theorem aq.paired:∀{vs:List V}{ds:List D},aq K N H vs ds→Paired (fun d v=>Rp K N H v d) ds vs
 |_,_,.nil=>.nil
 |_,_,.cons h r=>.cons h (aq.paired r)
theorem aq.of:∀{ds:List D}{vs:List V},Paired (fun d v=>Rp K N H v d) ds vs→aq K N H vs ds
 |_,_,.nil=>.nil
 |_,_,.cons h r=>.cons h (aq.of r)
theorem aq.len{vs:List V}{ds:List D}(r:aq K N H vs ds):vs.length=ds.length:=(cJ r.paired).symm
theorem aq.get:∀{vs:List V}{ds:List D}{i:Nat}{d:D},aq K N H vs ds→ds[i]?=some d→∃v,vs[i]?=some v∧Rp K N H v d
 |_,_,_,_,.nil,e=>by simp at e
 |_,_,0,_,.cons h _,e=>by simp at e;subst e;exact⟨_,rfl,h⟩
 |_,_,i+1,d,.cons _ r,e=>by
  obtain⟨v,h1,h2⟩:=aq.get (i:=i) (d:=d) r (by simpa using e)
  exact⟨v,by simpa using h1,h2⟩
theorem aq.app:∀{vs ws:List V}{ds es:List D},aq K N H vs ds→aq K N H ws es→aq K N H (vs++ws) (ds++es)
 |_,_,_,_,.nil,s=>s
 |_,_,_,_,.cons h r,s=>.cons h (aq.app r s)
theorem aq.set{v:V}{d:D}(q:Rp K N H v d):∀{vs:List V}{ds:List D} (i:Nat),aq K N H vs ds→aq K N H (vs.set i v) (ds.set i d)
 |_,_,_,.nil=>.nil
 |_,_,0,.cons _ t=>.cons q t
 |_,_,i+1,.cons h t=>.cons h (aq.set q i t)
theorem aq.take:∀{vs:List V}{ds:List D} (n:Nat),aq K N H vs ds→aq K N H (vs.take n) (ds.take n)
 |_,_,0,_=>.nil
 |_,_,_+1,.nil=>.nil
 |_,_,n+1,.cons r t=>.cons r (aq.take n t)
theorem aq.drop:∀{vs:List V}{ds:List D} (n:Nat),aq K N H vs ds→aq K N H (vs.drop n) (ds.drop n)
 |_,_,0,r=>r
 |_,_,_+1,.nil=>.nil
 |_,_,n+1,.cons _ t=>aq.drop n t
theorem aq.dl{vs:List V}{ds:List D}(h:aq K N H vs ds):aq K N H vs.dropLast ds.dropLast:=by
 rw[List.dropLast_eq_take,List.dropLast_eq_take,h.len]
 exact h.take _
theorem aq.rep:∀{vs:List V}{ds:List D} (n:Nat),aq K N H vs ds→aq K N H (List.replicate n vs).flatten (List.replicate n ds).flatten
 |_,_,0,_=>.nil
 |_,_,n+1,h=>by
  rw[x6,x6,x8,x8]
  exact h.app (aq.rep n h)
theorem aq.aX{vs:List V}{ds:List D}{i:Int}{d:D}(r:aq K N H vs ds)(e:L2.aX ds i=some d):∃v,L2.aX vs i=some v∧Rp K N H v d:=by
 unfold L2.aX at e ⊢
 rw[r.len]
 cases q:dF ds.length i with
 |none=>rw[q]at e;cases e
 |some j =>
  rw[q]at e
  exact r.get e
end
inductive M where|al|fr|un|bo|bi|rb|nb|ut
 deriving DecidableEq
noncomputable abbrev Ev:=List (Option (M×D))
noncomputable def Cell(K:PySem.W.Frag)(N:Addr→Prop)(H:Hp)(p:Addr):D→Prop
 |.lst ds=>∃xs,H p=some (.lst xs)∧aq K N H xs ds
 |.dk ks=>∃kvs,H p=some (.dK kvs)∧kvs.map (·.1)=ks.map (·.1)∧aq K N H (kvs.map (·.2)) (ks.map (·.2))
 |.dt ks=>∃kvs,H p=some (.dT kvs)∧kvs.map (·.1)=ks.map (·.1)∧aq K N H (kvs.map (·.2)) (ks.map (·.2))
 |_=>False
noncomputable def NM(H₀:Hp)(O:Addr→Prop):M→Addr→Prop
 |.al,a=>¬O a
 |.rb,a=>H₀ a=none
 |_,a=>¬O a∧H₀ a=none
def g9(K:PySem.W.Frag)(H₀:Hp)(O:Addr→Prop)(H:Hp)(d:D)(v:V):Prop :=
 ∃(p:Addr) (qs:List Addr) (aJ:List (List D)),v=.ref p∧d=.lst (aJ.map D.lst)∧O p∧H₀ p=none∧H p=some (.lst (qs.map V.ref))∧qs.Nodup∧(∀q∈qs,O q∧H₀ q=none∧q≠p) ∧
  Paired (fun q ds=>∃xs,H q=some (.lst xs)∧aq K (fun a=>¬O a∧H₀ a=none) H xs ds) qs aJ
def UT(K:PySem.W.Frag)(F:Addr→Prop)(H:Hp)(d:D)(v:V):Prop:=(d.bx=true∧Rp K (fun _=>False) H v d)∨∃q,v=.ref q∧F q∧Cell K (fun _=>False) H q d
def dz(K:PySem.W.Frag)(F:Addr→Prop)(H:Hp)(d:D)(v:V):Prop:=∃a xs ds,v=.ref a∧d=.tup ds∧bf K H a xs∧Paired (UT K F H) ds xs
noncomputable def Val(K:PySem.W.Frag)(H₀:Hp)(O:Addr→Prop)(Hb H:Hp):M→D→V→Prop
 |.al,d,v=>Rp K (fun a=>¬O a) H v d
 |.fr,d,v=>Rp K (fun a=>¬O a∧H₀ a=none) H v d
 |.rb,d,v=>Rp K (fun a=>H₀ a=none) H v d
 |.un,d,v=>∃p,v=.ref p∧Hb p=none∧H₀ p=none∧¬O p∧Cell K (fun a=>(¬O a∧H₀ a=none)∧a≠p) H p d
 |.bo,d,v=>∃p,v=.ref p∧O p∧H₀ p=none∧Cell K (fun a=>¬O a∧H₀ a=none) H p d
 |.bi,d,v=>∃p,v=.ref p∧O p∧Cell K (fun a=>¬O a∧H₀ a=none) H p d
 |.nb,d,v=>g9 K H₀ O H d v
 |.ut,d,v=>dz K (fun q=>Hb q=none∧H₀ q=none∧¬O q) H d v
noncomputable def aG:M→M
 |.al=>.al
 |.rb=>.rb
 |.nb=>.rb
 |_=>.fr
noncomputable abbrev HE:Hp:=fun _=>none
section
variable {K:PySem.W.Frag}{N N':Addr→Prop}{H H' H₀ Hb KC:Hp}{O:Addr→Prop}{m:M}{d:D}{v:V}{p:Addr}
theorem Cell.keep(k:Keeps N H H')(e:H' p=H p)(h:Cell K N H p d):Cell K N H' p d:=by
 cases d<;>simp only[Cell]at h ⊢
 ·obtain⟨xs,q,r⟩:=h;exact⟨xs,e.trans q,r.keep k⟩
 ·obtain⟨xs,q,z,r⟩:=h;exact⟨xs,e.trans q,z,r.keep k⟩
 ·obtain⟨xs,q,z,r⟩:=h;exact⟨xs,e.trans q,z,r.keep k⟩
theorem Cell.some(h:Cell K N H p d):∃o,H p=some o∧¬fP o:=by
 cases d<;>simp only[Cell]at h
 ·obtain⟨xs,q,r⟩:=h;exact⟨_,q,fun z=>z⟩
 ·obtain⟨xs,q,z,r⟩:=h;exact⟨_,q,fun z=>z⟩
 ·obtain⟨xs,q,z,r⟩:=h;exact⟨_,q,fun z=>z⟩
theorem Cell.wk(w:∀a,N a→(∃o,H a=Option.some o)→N' a)(h:Cell K N H p d):Cell K N' H p d:=by
 cases d<;>simp only[Cell]at h ⊢
 ·obtain⟨xs,q,r⟩:=h;exact⟨xs,q,r.wk w⟩
 ·obtain⟨xs,q,z,r⟩:=h;exact⟨xs,q,z,r.wk w⟩
 ·obtain⟨xs,q,z,r⟩:=h;exact⟨xs,q,z,r.wk w⟩
theorem Cell.rp(n:N p)(h:Cell K N H p d):Rp K N H (.ref p) d:=by
 cases d<;>simp only[Cell]at h
 ·obtain⟨xs,q,r⟩:=h;exact .lst (.inl q) n r
 ·obtain⟨xs,q,z,r⟩:=h;exact .dk (.inl q) n z r
 ·obtain⟨xs,q,z,r⟩:=h;exact .dt (.inl q) n z r
theorem jf{F G:Addr→List D→Prop}:∀{qs:List Addr}{aJ:List (List D)},(∀q ds,q∈qs→F q ds→G q ds)→Paired F qs aJ→Paired G qs aJ
 |_,_,_,.nil=>.nil
 |_,_,h,.cons a t=>.cons (h _ _ cL a) (jf (fun q ds m=>h q ds (cT _ m)) t)
theorem g9.keep(s:aA H H')(h:g9 K H₀ O H d v):g9 K H₀ O H' d v:=by
 obtain⟨p,qs,aJ,e1,e2,h1,h2,h3,h4,h5,h6⟩:=h
 exact⟨p,qs,aJ,e1,e2,h1,h2,s _ _ h3,h4,h5,jf (fun q ds _ ⟨xs,a,b⟩=>⟨xs,s _ _ a,b.keep (.same s)⟩) h6⟩
theorem g9.gf{F:Addr→Prop}(w:∀a,H₀ a=none→F a):∀{qs:List Addr}{aJ:List (List D)},(∀q∈qs,O q∧H₀ q=none∧q≠p)→Paired (fun q ds=>∃xs,H q=some (.lst xs)∧aq K (fun a=>¬O a∧H₀ a=none) H xs ds) qs aJ→aq K F H (qs.map V.ref) (aJ.map D.lst)
 |_,_,_,.nil=>.nil
 |_,_,h,.cons ⟨xs,a,b⟩ t=>.cons (.lst (.inl a) (w _ (h _ cL).2.1) (b.wk fun x z _=>w x z.2)) (g9.gf w (fun q m=>h q (cT _ m)) t)
theorem g9.rp{F:Addr→Prop}(w:∀a,H₀ a=none→F a)(h:g9 K H₀ O H d v):Rp K F H v d:=by
 obtain⟨p,qs,aJ,rfl,rfl,h1,h2,h3,h4,h5,h6⟩:=h
 exact .lst (.inl h3) (w _ h2) (g9.gf w h5 h6)
theorem dz.keep{F:Addr→Prop}(s:aA H H')(h:dz K F H d v):dz K F H' d v:=by
 obtain⟨a,xs,ds,e1,e2,h1,h2⟩:=h
 refine⟨a,xs,ds,e1,e2,(Keeps.same (N:=fun _=>True) s).sq h1,Paired.kh h2 fun d v z=>?_⟩
 rcases z with⟨z1,z2⟩|⟨q,z1,z2,c⟩
 ·exact .inl ⟨z1,z2.keep (.same s)⟩
 ·obtain⟨o,e,_⟩:=c.some
  exact .inr ⟨q,z1,z2,c.keep (.same s) ((s _ _ e).trans e.symm)⟩
theorem dz.wk{F F':Addr→Prop}(w:∀q,F q→F' q)(h:dz K F H d v):dz K F' H d v:=by
 obtain⟨a,xs,ds,e1,e2,h1,h2⟩:=h
 exact⟨a,xs,ds,e1,e2,h1,Paired.kh h2 fun d v z=>z.imp id fun⟨q,z1,z2,c⟩=>⟨q,z1,w q z2,c⟩⟩
theorem dz.gf{F:Addr→Prop}(w:∀q,F q→N q){ds:List D}{xs:List V}(h:Paired (UT K F H) ds xs):aq K N H xs ds:=aq.of (Paired.kh h fun d v z=>by
 rcases z with⟨z1,z2⟩|⟨q,rfl,z2,c⟩
 ·exact z2.im z1
 ·exact(c.wk fun _ z _=>z.elim).rp (w q z2))
theorem dz.rp{F:Addr→Prop}(w:∀q,F q→N q)(h:dz K F H d v):Rp K N H v d:=by
 obtain⟨a,xs,ds,rfl,rfl,h1,h2⟩:=h
 exact .tup h1 (dz.gf w h2)
theorem Val.keep(s:aA H H')(h:Val K H₀ O Hb H m d v):Val K H₀ O Hb H' m d v:=by
 cases m<;>simp only[Val]at h ⊢
 ·exact h.keep (.same s)
 ·exact h.keep (.same s)
 ·obtain⟨p,e,h1,h2,h3,c⟩:=h
  obtain⟨o,q,_⟩:=c.some
  exact⟨p,e,h1,h2,h3,c.keep (.same s) ((s _ _ q).trans q.symm)⟩
 ·obtain⟨p,e,h1,h2,c⟩:=h
  obtain⟨o,q,_⟩:=c.some
  exact⟨p,e,h1,h2,c.keep (.same s) ((s _ _ q).trans q.symm)⟩
 ·obtain⟨p,e,h1,c⟩:=h
  obtain⟨o,q,_⟩:=c.some
  exact⟨p,e,h1,c.keep (.same s) ((s _ _ q).trans q.symm)⟩
 ·exact h.keep (.same s)
 ·exact h.keep s
 ·exact h.keep s
theorem Val.hb(w:∀a,Hb a=none→KC a=none)(h:Val K H₀ O Hb H m d v):Val K H₀ O KC H m d v:=by
 cases m<;>simp only[Val]at h ⊢
 ·exact h
 ·exact h
 ·obtain⟨p,e,h1,r⟩:=h;exact⟨p,e,w _ h1,r⟩
 ·exact h
 ·exact h
 ·exact h
 ·exact h
 ·exact h.wk fun q z=>⟨w _ z.1,z.2⟩
theorem Val.h0(h:Val K H₀ O Hb H m d v):Val K H₀ O HE H m d v:=h.hb fun _ _=>rfl
theorem Val.weak(h:Val K H₀ O Hb H m d v):Rp K (fun _=>True) H v d:=by
 cases m<;>simp only[Val]at h
 ·exact h.wk fun _ _ _=>trivial
 ·exact h.wk fun _ _ _=>trivial
 ·obtain⟨p,rfl,_,_,_,c⟩:=h;exact(c.wk fun _ _ _=>trivial).rp trivial
 ·obtain⟨p,rfl,_,_,c⟩:=h;exact(c.wk fun _ _ _=>trivial).rp trivial
 ·obtain⟨p,rfl,_,c⟩:=h;exact(c.wk fun _ _ _=>trivial).rp trivial
 ·exact h.wk fun _ _ _=>trivial
 ·exact h.rp fun _ _=>trivial
 ·exact h.rp fun _ _=>trivial
theorem Rp.int_inv{i:Int}(h:Rp K N H v (.int i)):v=.int i:=by cases h;rfl
theorem Rp.Ac{b:Bool}(h:Rp K N H v (.bl b)):v=.bl b:=by cases h;rfl
theorem Rp.str_inv{x:Str}(h:Rp K N H v (.str x)):v=.str x:=by cases h;rfl
theorem Rp.F2(h:Rp K N H v .non):v=.non:=by cases h;rfl
theorem Rp.Tq{n:String}(h:Rp K N H v (.ty n)):v=.ty n:=by cases h;rfl
theorem Val.int{i:Int}(h:Val K H₀ O Hb H m (.int i) v):v=.int i:=h.weak.int_inv
theorem Val.bl{b:Bool}(h:Val K H₀ O Hb H m (.bl b) v):v=.bl b:=h.weak.Ac
theorem Val.str{x:Str}(h:Val K H₀ O Hb H m (.str x) v):v=.str x:=h.weak.str_inv
theorem Val.non(h:Val K H₀ O Hb H m .non v):v=.non:=h.weak.F2
theorem Val.ty{x:String}(h:Val K H₀ O Hb H m (.ty x) v):v=.ty x:=h.weak.Tq
theorem Val.lst{ds:List D}(h:Val K H₀ O Hb H m (.lst ds) v):∃a xs,v=.ref a∧bw K H a xs∧aq K (NM H₀ O (aG m)) H xs ds:=by
 cases m<;>simp only[Val,Cell]at h
 ·cases h with
  |lst r n q=>exact⟨_,_,rfl,.inl r,q⟩
  |lstK r q=>exact⟨_,_,rfl,.inr r,q⟩
 ·cases h with
  |lst r n q=>exact⟨_,_,rfl,.inl r,q⟩
  |lstK r q=>exact⟨_,_,rfl,.inr r,q⟩
 ·obtain⟨p,rfl,_,_,_,xs,q,r⟩:=h;exact⟨_,_,rfl,.inl (.inl q),r.wk fun a h _=>h.1⟩
 ·obtain⟨p,rfl,_,_,xs,q,r⟩:=h;exact⟨_,_,rfl,.inl (.inl q),r⟩
 ·obtain⟨p,rfl,_,xs,q,r⟩:=h;exact⟨_,_,rfl,.inl (.inl q),r⟩
 ·cases h with
  |lst r n q=>exact⟨_,_,rfl,.inl r,q⟩
  |lstK r q=>exact⟨_,_,rfl,.inr r,q⟩
 ·obtain⟨p,qs,aJ,rfl,e2,h1,h2,h3,h4,h5,h6⟩:=h
  cases e2
  exact⟨p,_,rfl,.inl (.inl h3),g9.gf (fun _ z=>z) h5 h6⟩
 ·obtain⟨_,_,_,_,e2,_⟩:=h;cases e2
theorem Val.tup{ds:List D}(h:Val K H₀ O Hb H m (.tup ds) v):∃a xs,v=.ref a∧bf K H a xs∧aq K (NM H₀ O (aG m)) H xs ds:=by
 cases m<;>simp only[Val,Cell]at h
 ·cases h with|tup r q=>exact⟨_,_,rfl,r,q⟩
 ·cases h with|tup r q=>exact⟨_,_,rfl,r,q⟩
 ·obtain⟨p,rfl,_,_,_,z⟩:=h;exact z.elim
 ·obtain⟨p,rfl,_,_,z⟩:=h;exact z.elim
 ·obtain⟨p,rfl,_,z⟩:=h;exact z.elim
 ·cases h with|tup r q=>exact⟨_,_,rfl,r,q⟩
 ·obtain⟨p,qs,aJ,rfl,e2,_⟩:=h;cases e2
 ·obtain⟨a,xs,mq,rfl,e2,h1,h2⟩:=h;cases e2;exact⟨a,xs,rfl,h1,dz.gf (fun q z=>⟨z.2.2,z.2.1⟩) h2⟩
theorem Val.el{a:V}{e:D}(h:Rp K (NM H₀ O (aG m)) H a e):Val K H₀ O Hb H (aG m) e a:=by
 cases m<;>exact h
noncomputable def bM:M→D→Bool
 |.fr,_=>true
 |.un,_=>true
 |.ut,_=>true
 |_,d=>d.bx
noncomputable def gi:M→D→Bool
 |.fr,_=>true
 |.un,_=>true
 |.ut,_=>true
 |.al,_=>true
 |_,d=>d.bx
noncomputable def uP:M→D→Bool
 |.fr,_=>true
 |.un,_=>true
 |.ut,_=>true
 |.bo,_=>true
 |.rb,_=>true
 |_,d=>d.bx
theorem Val.bM(h:Val K H₀ O Hb H m d v)(e:J.bM m d=true):Rp K (fun a=>¬O a∧H₀ a=none) H v d:=by
 cases m<;>simp only[J.bM]at e
 ·exact h.weak.im e
 ·exact h
 ·obtain⟨p,rfl,_,h1,h2,c⟩:=h
  exact(c.wk fun a h _=>h.1).rp ⟨h2,h1⟩
 ·exact h.weak.im e
 ·exact h.weak.im e
 ·exact h.weak.im e
 ·exact Rp.im e h.weak
 ·exact dz.rp (fun q z=>⟨z.2.2,z.2.1⟩) h
theorem Val.gi(h:Val K H₀ O Hb H m d v)(e:J.gi m d=true):Rp K (fun a=>¬O a) H v d:=by
 cases m<;>simp only[J.gi]at e
 ·exact h
 ·exact Rp.wk (fun a h _=>h.1) (show Rp K (fun a=>¬O a∧H₀ a=none) H v d from h)
 ·exact Rp.wk (fun a h _=>h.1) (h.bM rfl)
 ·exact h.weak.im e
 ·exact h.weak.im e
 ·exact h.weak.im e
 ·exact Rp.im e h.weak
 ·exact dz.rp (fun q z=>z.2.2) h
theorem Val.uP(h:Val K H₀ O Hb H m d v)(e:J.uP m d=true):Rp K (fun a=>H₀ a=none) H v d:=by
 cases m<;>simp only[J.uP]at e
 ·exact h.weak.im e
 ·exact Rp.wk (fun a h _=>h.2) (show Rp K (fun a=>¬O a∧H₀ a=none) H v d from h)
 ·exact Rp.wk (fun a h _=>h.2) (h.bM rfl)
 ·obtain⟨p,rfl,_,h1,c⟩:=h
  exact(c.wk fun a h _=>h.2).rp h1
 ·exact h.weak.im e
 ·exact h
 ·exact Rp.im e h.weak
 ·exact dz.rp (fun q z=>z.2.1) h
end
noncomputable def hZ:M→Bool
 |.un=>false
 |.rb=>false
 |.ut=>false
 |_=>true
structure cZ (K:PySem.W.Frag)(H₀:Hp)(O:Addr→Prop)(H:Hp)(σ:St)(env:Ev):Prop where
 sl:Paired (fun(e:Option (M×D)) (x:Option V)=>∀m d,e=some (m,d)→hZ m=true∧∃v,x=some v∧Val K H₀ O HE H m d v) env σ
 od:∀a,O a→∃o,H a=some o
 hd:∀a o,H₀ a=some o→∃o',H a=some o'
 on:∀a o,O a→H a=some o→¬fP o
def JT(K:PySem.W.Frag)(te:TE)(f:Ev→Option (M×D)):Prop :=
 ∀H₀ O H σ env Q m d,cZ K H₀ O H σ env→f env=some (m,d)→(∀v H',aA H H'→Val K H₀ O H H' m d v→Q v H')→te σ H Q
def dX(K:PySem.W.Frag)(tt:TT)(f:Ev→Option Bool):Prop :=
 ∀H₀ O H σ env Q b,cZ K H₀ O H σ env→f env=some b→(∀H',aA H H'→Q b H')→tt σ H Q
def fh(K:PySem.W.Frag)(H₀:Hp)(O:Addr→Prop)(Hb H:Hp)(ak:List (M×D))(vs:List V):Prop:=Paired (fun md v=>Val K H₀ O Hb H md.1 md.2 v) ak vs
def gQ(K:PySem.W.Frag)(ta:TA)(f:Ev→Option (List (M×D))):Prop :=
 ∀H₀ O H σ env Q ak,cZ K H₀ O H σ env→f env=some ak→(∀vs H',aA H H'→fh K H₀ O H H' ak vs→Q vs H')→ta σ H Q
section
variable {K:PySem.W.Frag}{H H' H₀:Hp}{O:Addr→Prop}{σ:St}{env:Ev}
theorem j8{α β:Type}{F G:α→β→Prop}(h:∀a b,F a b→G a b):∀{l:List α}{r:List β},Paired F l r→Paired G l r
 |_,_,.nil=>.nil
 |_,_,.cons q t=>.cons (h _ _ q) (j8 h t)
theorem cZ.keep(R:cZ K H₀ O H σ env)(s:aA H H'):cZ K H₀ O H' σ env :=
 ⟨j8 (fun e x h m d q=>⟨(h m d q).1,let ⟨v,e,z⟩:=(h m d q).2;⟨v,e,z.keep s⟩⟩) R.sl,fun a h=>let ⟨o,q⟩:=R.od a h;⟨o,s _ _ q⟩,fun a o h=>let ⟨o,q⟩:=R.hd a o h;⟨o,s _ _ q⟩,fun a o h e=>by
  obtain⟨o',q⟩:=R.od a h
  have z:=s _ _ q
  rw[e]at z;cases z
  exact R.on a _ h q⟩
theorem Ba{α β:Type}{F:α→β→Prop}:∀{l:List α}{r:List β}{i:Nat}{a:α},Paired F l r→l[i]?=some a→∃b,r[i]?=some b∧F a b
 |_,_,_,_,.nil,e=>by simp at e
 |_,_,0,_,.cons h _,e=>by simp at e;subst e;exact⟨_,rfl,h⟩
 |_,_,i+1,a,.cons _ r,e=>by
  obtain⟨v,h1,h2⟩:=Ba (i:=i) (a:=a) r (by simpa using e)
  exact⟨v,by simpa using h1,h2⟩
theorem cZ.at{i:Nat}{m:M}{d:D}(R:cZ K H₀ O H σ env)(e:env[i]?=some (some (m,d))):∃v,σ[i]?=some (some v)∧hZ m=true∧Val K H₀ O HE H m d v:=by
 obtain⟨x,hx,h⟩:=Ba R.sl e
 obtain⟨h0,v,rfl,hz⟩:=h m d rfl
 exact⟨v,hx,h0,hz⟩
theorem Val.Ig{m:M}{d:D}{v:V}{Hb:Hp}(n:hZ m=true)(h:Val K H₀ O HE H m d v):Val K H₀ O Hb H m d v:=by
 cases m<;>first|exact h|cases n
noncomputable def jV(i:Nat):Ev→Option (M×D):=fun e=>(e[i]?).bind id
theorem Tr{i:Nat}:JT K (gq i) (jV i):=by
 intro H₀ O H σ env Q m d R h q
 unfold jV at h
 cases e:env[i]? with
 |none=>rw[e]at h;cases h
 |some x =>
  rw[e]at h
  obtain rfl:x=some (m,d):=h
  obtain⟨v,hv,n,hm⟩:=R.at e
  exact⟨v,hv,q v H (aA.refl H) (hm.Ig n)⟩
noncomputable def jC(d:D):Ev→Option (M×D):=fun _=>some (.fr,d)
noncomputable def cD:V→Option D
 |.non=>some .non
 |.bl b=>some (.bl b)
 |.int i=>some (.int i)
 |.str x=>some (.str x)
 |.ty n=>some (.ty n)
 |_=>none
theorem qE{v:V}{d:D}(e:cD v=some d):JT K (tC v) (jC d):=by
 intro H₀ O H σ env Q m d' R h q
 cases h
 refine q v H (aA.refl H) ?_
 cases v<;>simp only[cD]at e<;>cases e<;>constructor
def JR(K:PySem.W.Frag)(r:R2)(g:M×D→M×D→Option (M×D)):Prop :=
 ∀H₀ O H x y a b Q m d,(∀a,O a→∃o,H a=some o)→(∀a o,H₀ a=some o→∃o',H a=some o')→Val K H₀ O HE H (Prod.fst a) a.2 x→Val K H₀ O HE H (Prod.fst b) b.2 y→g a b=some (m,d)→(∀v H',aA H H'→Val K H₀ O H H' m d v→Q v H')→r x y H Q
noncomputable def ae(g:M×D→M×D→Option (M×D))(fa fb:Ev→Option (M×D)):Ev→Option (M×D):=fun e=>(fa e).bind fun x=>(fb e).bind fun y=>g x y
theorem wL{r:R2}{g:M×D→M×D→Option (M×D)}{ta tb:TE}{fa fb:Ev→Option (M×D)}(hr:JR K r g)(ha:JT K ta fa)(hb:JT K tb fb):JT K (lZ r ta tb) (ae g fa fb):=by
 intro H₀ O H σ env Q m d R h q
 unfold ae at h
 cases ea:fa env with
 |none=>rw[ea]at h;cases h
 |some a =>
  cases eb:fb env with
  |none=>rw[ea,eb]at h;cases h
  |some b =>
   rw[ea,eb]at h
   refine ha H₀ O H σ env _ a.1 a.2 R ea fun x H1 s1 h1=>?_
   refine hb H₀ O H1 σ env _ b.1 b.2 (R.keep s1) eb fun y H2 s2 h2=>?_
   have R2:=(R.keep s1).keep s2
   refine hr H₀ O H2 x y a b Q m d R2.od R2.hd (h1.keep s2).h0 h2.h0 h fun v H3 s3 h3=>?_
   exact q v H3 ((s1.trans s2).trans s3) (h3.hb fun a z=>(s1.trans s2).free z)
noncomputable def cV(g:M×D→Option (M×D))(fa:Ev→Option (M×D)):Ev→Option (M×D):=fun e=>(fa e).bind g
def JU(K:PySem.W.Frag)(r:V→Hp→VK→Prop)(g:M×D→Option (M×D)):Prop :=
 ∀H₀ O H x a Q m d,(∀a,O a→∃o,H a=some o)→(∀a o,H₀ a=some o→∃o',H a=some o')→Val K H₀ O HE H (Prod.fst a) a.2 x→g a=some (m,d)→(∀v H',aA H H'→Val K H₀ O H H' m d v→Q v H')→r x H Q
theorem Vl{r:V→Hp→VK→Prop}{g:M×D→Option (M×D)}{ta:TE}{fa:Ev→Option (M×D)}(hr:JU K r g)(ha:JT K ta fa):JT K (Kp r ta) (cV g fa):=by
 intro H₀ O H σ env Q m d R h q
 unfold cV at h
 cases ea:fa env with
 |none=>rw[ea]at h;cases h
 |some a =>
  rw[ea]at h
  refine ha H₀ O H σ env _ a.1 a.2 R ea fun x H1 s1 h1=>?_
  have R1:=R.keep s1
  exact hr H₀ O H1 x a Q m d R1.od R1.hd h1.h0 h fun v H3 s3 h3=>q v H3 (s1.trans s3) (h3.hb fun a z=>s1.free z)
theorem j9{H:Hp}{Hb:Hp}{i:Int}:Val K H₀ O Hb H .fr (.int i) (.int i):=Rp.int i
theorem dG{H:Hp}{Hb:Hp}{i:Bool}:Val K H₀ O Hb H .fr (.bl i) (.bl i):=Rp.bl i
theorem wM{H:Hp}{Hb:Hp}{i:Str}:Val K H₀ O Hb H .fr (.str i) (.str i):=Rp.str i
noncomputable def gI(c:Int→Int→Prop)[∀i j,Decidable (c i j)](f:Int→Int→Int):M×D→M×D→Option (M×D)
 | (_,.int i),(_,.int j)=>if c i j then some (.fr,.int (f i j))else none
 |_,_=>none
noncomputable def rC(f:Int→Int→Int):M×D→M×D→Option (M×D)
 | (_,.int i),(_,.int j)=>some (.fr,.int (f i j))
 |_,_=>none
noncomputable def uQ(f:Int→Int→Bool):M×D→M×D→Option (M×D)
 | (_,.int i),(_,.int j)=>some (.fr,.bl (f i j))
 |_,_=>none
theorem xB{C:Int→Int→Prop}{c:Int→Int→Prop}[∀i j,Decidable (c i j)]{f:Int→Int→Int}(w:∀i j,c i j→C i j):JR K (rI C fun i j=>.int (f i j)) (gI c f):=by
 intro H₀ O H x y a b Q m d _ _ h1 h2 h q
 obtain⟨ma,da⟩:=a;obtain⟨mb,db⟩:=b
 cases da<;>try (cases h;done)
 cases db<;>try (cases h;done)
 rename_i i j
 simp only[gI]at h
 split at h
 ·rename_i hc
  cases h
  exact⟨i,j,h1.int,h2.int,w i j hc,q _ H (aA.refl H) j9⟩
 ·cases h
theorem tm{f:Int→Int→Int}:JR K (dU fun i j=>.int (f i j)) (rC f):=by
 intro H₀ O H x y a b Q m d _ _ h1 h2 h q
 obtain⟨ma,da⟩:=a;obtain⟨mb,db⟩:=b
 cases da<;>try (cases h;done)
 cases db<;>try (cases h;done)
 rename_i i j
 cases h
 exact⟨i,j,h1.int,h2.int,q _ H (aA.refl H) j9⟩
theorem Ih{f:Int→Int→Bool}:JR K (dU fun i j=>.bl (f i j)) (uQ f):=by
 intro H₀ O H x y a b Q m d _ _ h1 h2 h q
 obtain⟨ma,da⟩:=a;obtain⟨mb,db⟩:=b
 cases da<;>try (cases h;done)
 cases db<;>try (cases h;done)
 rename_i i j
 cases h
 exact⟨i,j,h1.int,h2.int,q _ H (aA.refl H) dG⟩
noncomputable def Jx:=rC (·+·)
noncomputable def fj:=rC (· - ·)
noncomputable def c6:=gI (fun i j=>(-18446744073709551616<i∧i<18446744073709551616)∨(-18446744073709551616<j∧j<18446744073709551616)) (· * ·)
noncomputable def aY:=gI (fun _ j=>0<j) (· % ·)
noncomputable def oI:=gI (fun i j=>0≤j∧j≤1000000∧i.natAbs<2^64) (fun i j=>i^j.toNat)
noncomputable def WN:=gI (fun i j=>0≤j∧j≤1000000∧i.natAbs<2^64) (fun i j=>i*2^j.toNat)
noncomputable def dY:=uQ (fun i j=>decide (i<j))
noncomputable def XE:=uQ (fun i j=>decide (i≤j))
noncomputable def dN:=uQ (fun i j=>decide (j<i))
noncomputable def XF:=uQ (fun i j=>decide (j≤i))
theorem Ts:JR K (dU fun i j=>.int (i+j)) Jx:=tm
theorem Tt:JR K (dU fun i j=>.int (i-j)) fj:=tm
theorem KD:(2:Int)^64=18446744073709551616:=by decide
theorem Tv:JR K (rI tQ fun i j=>.int (i*j)) c6:=xB fun i j h=>by
 unfold tQ;rw[KD];exact h
theorem Tw:JR K (rI (fun _ j=>0<j) fun i j=>.int (i%j)) aY:=xB fun _ _ h=>h
theorem Tx:JR K (rI Jo fun i j=>.int (i^j.toNat)) oI:=xB fun _ _ h=>h
theorem Vm:JR K (dU fun i j=>.bl (decide (i<j))) dY:=Ih
theorem Vn:JR K (dU fun i j=>.bl (decide (j<i))) dN:=Ih
noncomputable def cW:D→Option V
 |.non=>some .non
 |.bl b=>some (.bl b)
 |.int i=>some (.int i)
 |.str x=>some (.str x)
 |_=>none
theorem qt{N:Addr→Prop}{d:D}{v w:V}(h:Rp K N H v d)(e:cW d=some w):v=w:=by
 cases h<;>simp only[cW]at e<;>cases e<;>rfl
noncomputable def aQ:M×D→M×D→Option (M×D):=fun a b=>(cW a.2).bind fun x=>(cW b.2).bind fun y=>if ko x y=true then some (.fr,.bl (decide (x=y)))else none
noncomputable def bV:M×D→M×D→Option (M×D):=fun a b=>(cW a.2).bind fun x=>(cW b.2).bind fun y=>if ko x y=true then some (.fr,.bl (!decide (x=y)))else none
theorem Vo:JR K Kq aQ:=by
 intro H₀ O H x y a b Q m d _ _ h1 h2 h q
 unfold aQ at h
 cases e1:cW a.2 with
 |none=>rw[e1]at h;cases h
 |some x' =>
  cases e2:cW b.2 with
  |none=>rw[e1,e2]at h;cases h
  |some y' =>
   rw[e1,e2]at h
   obtain rfl:=qt h1.weak e1
   obtain rfl:=qt h2.weak e2
   simp only[Option.bind_some]at h
   split at h
   ·rename_i hc
    cases h
    exact⟨hc,q _ H (aA.refl H) dG⟩
   ·cases h
theorem Vp:JR K Kr bV:=by
 intro H₀ O H x y a b Q m d _ _ h1 h2 h q
 unfold bV at h
 cases e1:cW a.2 with
 |none=>rw[e1]at h;cases h
 |some x' =>
  cases e2:cW b.2 with
  |none=>rw[e1,e2]at h;cases h
  |some y' =>
   rw[e1,e2]at h
   obtain rfl:=qt h1.weak e1
   obtain rfl:=qt h2.weak e2
   simp only[Option.bind_some]at h
   split at h
   ·rename_i hc
    cases h
    exact⟨hc,q _ H (aA.refl H) dG⟩
   ·cases h
noncomputable def jn:M×D→M×D→Option (M×D)
 | (_,.non),(_,.non)=>some (.fr,.bl true)
 | (_,_),(_,.non)=>some (.fr,.bl false)
 |_,_=>none
noncomputable def kc:M×D→M×D→Option (M×D)
 | (_,.non),(_,.non)=>some (.fr,.bl false)
 | (_,_),(_,.non)=>some (.fr,.bl true)
 |_,_=>none
theorem G4{N:Addr→Prop}{d:D}{v:V}(h:Rp K N H v d):(v=.non↔d=.non):=by
 cases h<;>simp
theorem Tz:JR K (fun x y H Q=>y=.non∧Q (.bl (decide (x=.non))) H) jn:=by
 intro H₀ O H x y a b Q m d _ _ h1 h2 h q
 obtain⟨ma,da⟩:=a;obtain⟨mb,db⟩:=b
 have e:=G4 h1.weak
 cases db<;>try (cases da<;>cases h;done)
 refine⟨h2.non,?_⟩
 cases da<;>cases h<;>(simp only[e,reduceCtorEq,decide_true,decide_false];exact q _ H (aA.refl H) dG)
theorem QG:JR K (fun x y H Q=>y=.non∧Q (.bl (!decide (x=.non))) H) kc:=by
 intro H₀ O H x y a b Q m d _ _ h1 h2 h q
 obtain⟨ma,da⟩:=a;obtain⟨mb,db⟩:=b
 have e:=G4 h1.weak
 cases db<;>try (cases da<;>cases h;done)
 refine⟨h2.non,?_⟩
 cases da<;>cases h<;>(simp only[e,reduceCtorEq,decide_true,decide_false];exact q _ H (aA.refl H) dG)
noncomputable def aj:M×D→M×D→Option (M×D)
 | (m,.lst ds),(_,.int i)=>(aX ds i).map fun d=>(aG m,d)
 | (m,.tup ds),(_,.int i)=>(aX ds i).map fun d=>(aG m,d)
 | (_,.str z),(_,.int i)=>if z.length≤sizeLine then (aX z.cps.toList i).map fun c=>(.fr,.str ⟨#[c]⟩)else none
 |_,_=>none
theorem Vq:JR K (rn K) aj:=by
 intro H₀ O H x y a b Q m d _ _ h1 h2 h q
 obtain⟨ma,da⟩:=a;obtain⟨mb,db⟩:=b
 cases da<;>try (cases db<;>cases h;done)
 ·cases db<;>try (cases h;done)
  rename_i z i
  simp only[aj]at h
  split at h
  ·rename_i hl
   cases e:aX z.cps.toList i with
   |none=>rw[e]at h;cases h
   |some c =>
    rw[e]at h;cases h
    exact .inr (.inr ⟨z,i,c,h1.str,h2.int,hl,e,q _ H (aA.refl H) wM⟩)
  ·cases h
 ·cases db<;>try (cases h;done)
  rename_i ds i
  simp only[aj]at h
  cases e:aX ds i with
  |none=>rw[e]at h;cases h
  |some c =>
   rw[e]at h;cases h
   obtain⟨p,xs,rfl,hp,hs⟩:=h1.tup
   obtain⟨v,hv,r⟩:=hs.aX e
   exact .inr (.inl ⟨p,xs,i,v,rfl,h2.int,hp,hv,q _ H (aA.refl H) (.el r)⟩)
 ·cases db<;>try (cases h;done)
  rename_i ds i
  simp only[aj]at h
  cases e:aX ds i with
  |none=>rw[e]at h;cases h
  |some c =>
   rw[e]at h;cases h
   obtain⟨p,xs,rfl,hp,hs⟩:=h1.lst
   obtain⟨v,hv,r⟩:=hs.aX e
   exact .inl ⟨p,xs,i,v,rfl,h2.int,hp,hv,q _ H (aA.refl H) (.el r)⟩
end
section
variable {K:PySem.W.Frag}{H H' H₀:Hp}{O:Addr→Prop}{σ:St}{env:Ev}
noncomputable def fQ:M×D→Option Bool
 | (_,.bl b)=>some b
 |_=>none
theorem qc{a:M×D}{b:Bool}(h:fQ a=some b):a.2=.bl b:=by
 obtain⟨m,d⟩:=a
 cases d<;>simp only[fQ]at h<;>first | (cases h;rfl)|cases h
noncomputable def ky(fa fb:Ev→Option (M×D)):Ev→Option (M×D):=fun e=>(fa e).bind fun x=>(fQ x).bind fun b=>if b=true then fb e else some (.fr,.bl false)
noncomputable def yz(fa fb:Ev→Option (M×D)):Ev→Option (M×D):=fun e=>(fa e).bind fun x=>(fQ x).bind fun b=>if b=true then some (.fr,.bl true)else fb e
noncomputable def xC(fa:Ev→Option (M×D)):Ev→Option (M×D):=fun e=>(fa e).bind fun x=>(fQ x).bind fun b=>some (.fr,.bl (!b))
theorem ao{α β:Type}{x:Option α}{f:α→Option β}{y:β}(h:x.bind f=some y):∃a,x=some a∧f a=some y:=by
 cases x with
 |none=>cases h
 |some a=>exact⟨a,rfl,h⟩
theorem TB{ta tb:TE}{fa fb:Ev→Option (M×D)}(ha:JT K ta fa)(hb:JT K tb fb):JT K (HR ta tb) (ky fa fb):=by
 intro H₀ O H σ env Q m d R h q
 obtain⟨a,ea,h⟩:=ao h
 obtain⟨b,eb,h⟩:=ao h
 refine ha H₀ O H σ env _ a.1 a.2 R ea fun x H1 s1 h1=>?_
 rw[qc eb]at h1
 refine⟨b,h1.bl,?_⟩
 cases b with
 |true =>
  rw[if_pos rfl]at h ⊢
  exact hb H₀ O H1 σ env _ m d (R.keep s1) h fun v H2 s2 h2=>q v H2 (s1.trans s2) (h2.hb fun a z=>s1.free z)
 |false =>
  rw[if_neg aZ]at h ⊢
  cases h
  exact q _ H1 s1 dG
theorem Vr{ta tb:TE}{fa fb:Ev→Option (M×D)}(ha:JT K ta fa)(hb:JT K tb fb):JT K (Ji ta tb) (yz fa fb):=by
 intro H₀ O H σ env Q m d R h q
 obtain⟨a,ea,h⟩:=ao h
 obtain⟨b,eb,h⟩:=ao h
 refine ha H₀ O H σ env _ a.1 a.2 R ea fun x H1 s1 h1=>?_
 rw[qc eb]at h1
 refine⟨b,h1.bl,?_⟩
 cases b with
 |true =>
  rw[if_pos rfl]at h ⊢
  cases h
  exact q _ H1 s1 dG
 |false =>
  rw[if_neg aZ]at h ⊢
  exact hb H₀ O H1 σ env _ m d (R.keep s1) h fun v H2 s2 h2=>q v H2 (s1.trans s2) (h2.hb fun a z=>s1.free z)
theorem TC{ta:TE}{fa:Ev→Option (M×D)}(ha:JT K ta fa):JT K (HS ta) (xC fa):=by
 intro H₀ O H σ env Q m d R h q
 obtain⟨a,ea,h⟩:=ao h
 obtain⟨b,eb,h⟩:=ao h
 cases h
 refine ha H₀ O H σ env _ a.1 a.2 R ea fun x H1 s1 h1=>?_
 rw[qc eb]at h1
 exact⟨b,h1.bl,q _ H1 s1 dG⟩
noncomputable def jB(f:Ev→Option (M×D)):Ev→Option Bool:=fun e=>(f e).bind fQ
theorem tD{t:TE}{f:Ev→Option (M×D)}(h:JT K t f):dX K (tB t) (jB f):=by
 intro H₀ O H σ env Q b R e q
 obtain⟨a,ea,e⟩:=ao e
 refine h H₀ O H σ env _ a.1 a.2 R ea fun x H1 s1 h1=>?_
 rw[qc e]at h1
 exact⟨b,h1.bl,q H1 s1⟩
theorem E9{t:TE}{f:Ev→Option (M×D)}(h:JT K t f):dX K (Ay t) (jB f):=tD h
theorem NQ{t:TE}{f:Ev→Option (M×D)}(h:JT K t f):dX K (fun σ H Q=>t σ H fun x H'=>∃k,xq K x H' k∧Q k H') (jB f):=by
 intro H₀ O H σ env Q b R e q
 obtain⟨a,ea,e⟩:=ao e
 refine h H₀ O H σ env _ a.1 a.2 R ea fun x H1 s1 h1=>?_
 rw[qc e]at h1
 exact⟨b,by rw[h1.bl];exact rfl,q H1 s1⟩
noncomputable def bY(f g:Ev→Option Bool):Ev→Option Bool:=fun e=>(f e).bind fun b=>if b=true then g e else some false
noncomputable def cB(f g:Ev→Option Bool):Ev→Option Bool:=fun e=>(f e).bind fun b=>if b=true then some true else g e
noncomputable def fm(f:Ev→Option Bool):Ev→Option Bool:=fun e=>(f e).bind fun b=>some (!b)
theorem QH{t u:TT}{f g:Ev→Option Bool}(h:dX K t f)(h':dX K u g):dX K (Jg t u) (bY f g):=by
 intro H₀ O H σ env Q b R e q
 obtain⟨c,ec,e⟩:=ao e
 refine h H₀ O H σ env _ c R ec fun H1 s1=>?_
 cases c with
 |true =>
  rw[if_pos rfl]at e ⊢
  exact h' H₀ O H1 σ env _ b (R.keep s1) e fun H2 s2=>q H2 (s1.trans s2)
 |false =>
  rw[if_neg aZ]at e ⊢
  cases e
  exact q H1 s1
theorem TF{t u:TT}{f g:Ev→Option Bool}(h:dX K t f)(h':dX K u g):dX K (Kl t u) (cB f g):=by
 intro H₀ O H σ env Q b R e q
 obtain⟨c,ec,e⟩:=ao e
 refine h H₀ O H σ env _ c R ec fun H1 s1=>?_
 cases c with
 |true =>
  rw[if_pos rfl]at e ⊢
  cases e
  exact q H1 s1
 |false =>
  rw[if_neg aZ]at e ⊢
  exact h' H₀ O H1 σ env _ b (R.keep s1) e fun H2 s2=>q H2 (s1.trans s2)
theorem QI{t:TT}{f:Ev→Option Bool}(h:dX K t f):dX K (Jh t) (fm f):=by
 intro H₀ O H σ env Q b R e q
 obtain⟨c,ec,e⟩:=ao e
 cases e
 exact h H₀ O H σ env _ c R ec fun H1 s1=>q H1 s1
noncomputable def qF(c:Ev→Option Bool)(fa fb:Ev→Option (M×D)):Ev→Option (M×D):=fun e=>(c e).bind fun b=>if b=true then fa e else fb e
theorem TH{t:TT}{c:Ev→Option Bool}{ta tb:TE}{fa fb:Ev→Option (M×D)}(hc:dX K t c)(ha:JT K ta fa)(hb:JT K tb fb):JT K (Km t ta tb) (qF c fa fb):=by
 intro H₀ O H σ env Q m d R h q
 obtain⟨b,eb,h⟩:=ao h
 refine hc H₀ O H σ env _ b R eb fun H1 s1=>?_
 cases b with
 |true =>
  rw[if_pos rfl]at h ⊢
  exact ha H₀ O H1 σ env _ m d (R.keep s1) h fun v H2 s2 h2=>q v H2 (s1.trans s2) (h2.hb fun a z=>s1.free z)
 |false =>
  rw[if_neg aZ]at h ⊢
  exact hb H₀ O H1 σ env _ m d (R.keep s1) h fun v H2 s2 h2=>q v H2 (s1.trans s2) (h2.hb fun a z=>s1.free z)
noncomputable def G5(g g':M×D→M×D→Option (M×D))(fa fb fc:Ev→Option (M×D)):Ev→Option (M×D):=fun e=>(fa e).bind fun x=>(fb e).bind fun y=>(g x y).bind fun z=>(fQ z).bind fun k=>if k=true then (fc e).bind fun w=>g' y w else some (.fr,.bl false)
noncomputable def ah:Ev→Option (List (M×D)):=fun _=>some []
noncomputable def ag(f:Ev→Option (M×D))(g:Ev→Option (List (M×D))):Ev→Option (List (M×D)):=fun e=>(f e).bind fun x=>(g e).bind fun r=>some (x::r)
theorem QJ:gQ K kr ah:=by
 intro H₀ O H σ env Q ak R h q
 cases h
 exact q [] H (aA.refl H) .nil
theorem O8{te:TE}{ta:TA}{f:Ev→Option (M×D)}{g:Ev→Option (List (M×D))}(hf:JT K te f)(hg:gQ K ta g):gQ K (lG te ta) (ag f g):=by
 intro H₀ O H σ env Q ak R h q
 obtain⟨x,ex,h⟩:=ao h
 obtain⟨r,er,h⟩:=ao h
 cases h
 refine hf H₀ O H σ env _ x.1 x.2 R ex fun v H1 s1 h1=>?_
 refine hg H₀ O H1 σ env _ r (R.keep s1) er fun vs H2 s2 h2=>?_
 exact q (v::vs) H2 (s1.trans s2) (.cons (h1.keep s2) (j8 (fun _ _ z=>z.hb fun a z=>s1.free z) h2))
theorem fh.gf{N:Addr→Prop}{Hb:Hp}:∀{ak:List (M×D)}{vs:List V},(∀md∈ak,∀v,Val K H₀ O Hb H md.1 md.2 v→Rp K N H v md.2)→fh K H₀ O Hb H ak vs→aq K N H vs (ak.map (·.2))
 |_,_,_,.nil=>.nil
 |md::ak,v::vs,h,.cons a r=>.cons (h md cL v a) (fh.gf (fun x hx=>h x (cT _ hx)) r)
theorem cq{p:Addr}{o:HO}(h:H p=none):aA H (upd H p o):=fun b u e=>by rw[ay (eD e h)];exact e
noncomputable def eY(ak:List (M×D)):Option (M×D) :=
 if ak.length≤sizeLine then
  if (ak.all fun md=>bM md.1 md.2)=true then some (.un,.lst (ak.map (·.2)))
  else if (ak.all fun md=>gi md.1 md.2)=true then some (.al,.lst (ak.map (·.2)))else none
 else none
noncomputable def bJ(fs:Ev→Option (List (M×D))):Ev→Option (M×D):=fun e=>(fs e).bind eY
theorem vI{p:Addr}{xs:List V}{ds:List D}(od:∀a,O a→∃o,H a=some o)(hd:∀a o,H₀ a=some o→∃o',H a=some o')(hp:H p=none)(r:aq K (fun a=>¬O a∧H₀ a=none) H xs ds):Val K H₀ O H (upd H p (.lst xs)) .un (.lst ds) (.ref p):=by
 refine⟨p,rfl,hp,?_,?_,xs,a9,?_⟩
 ·cases e:H₀ p with
  |none=>rfl
  |some o=>obtain⟨o',e'⟩:=hd p o e;rw[hp]at e';cases e'
 ·intro z;obtain⟨o,e⟩:=od p z;rw[hp]at e;cases e
 ·refine(aq.wk (fun a h ⟨o,e⟩=>⟨h,?_⟩) r).keep (.same (cq hp))
  exact eD e hp
theorem ig{p:Addr}(od:∀a,O a→∃o,H a=some o)(hp:H p=none):¬O p:=by
 intro z;obtain⟨o,e⟩:=od p z;rw[hp]at e;cases e
theorem lC{p:Addr}(hd:∀a o,H₀ a=some o→∃o',H a=some o')(hp:H p=none):H₀ p=none:=by
 cases e:H₀ p with
 |none=>rfl
 |some o=>obtain⟨o',e'⟩:=hd p o e;rw[hp]at e';cases e'
theorem TJ{ta:TA}{fs:Ev→Option (List (M×D))}(ha:gQ K ta fs):JT K (xt ta) (bJ fs):=by
 intro H₀ O H σ env Q m d R h q
 obtain⟨ak,e,h⟩:=ao h
 unfold eY at h
 split at h
 ·rename_i hl
  refine ha H₀ O H σ env _ ak R e fun vs H1 s1 h1=>⟨by rw[←cJ h1];exact hl,fun p hp=>?_⟩
  have R1:=R.keep s1
  split at h
  ·rename_i hs
   cases h
   rw[jF]at hs
   exact q _ _ (s1.trans (cq hp)) ((vI R1.od R1.hd hp (h1.gf fun md hm v hv=>hv.bM (hs md hm))).hb fun a z=>s1.free z)
  ·split at h
   ·rename_i hs
    cases h
    rw[jF]at hs
    refine q _ _ (s1.trans (cq hp)) ?_
    exact Rp.lst (.inl a9) (ig R1.od hp) ((h1.gf fun md hm v hv=>hv.gi (hs md hm)).keep (.same (cq hp)))
   ·cases h
 ·cases h
noncomputable def tE(ak:List (M×D)):Option (M×D) :=
 if ak.length≤sizeLine then
  if (ak.all fun md=>bM md.1 md.2)=true then some (.fr,.tup (ak.map (·.2)))
  else if (ak.all fun md=>gi md.1 md.2)=true then some (.al,.tup (ak.map (·.2)))
  else if (ak.all fun md=>uP md.1 md.2)=true then some (.rb,.tup (ak.map (·.2)))else none
 else none
noncomputable def ck(fs:Ev→Option (List (M×D))):Ev→Option (M×D):=fun e=>(fs e).bind tE
theorem TK{ta:TA}{fs:Ev→Option (List (M×D))}(ha:gQ K ta fs):JT K (AZ ta) (ck fs):=by
 intro H₀ O H σ env Q m d R h q
 obtain⟨ak,e,h⟩:=ao h
 unfold tE at h
 split at h
 ·rename_i hl
  refine ha H₀ O H σ env _ ak R e fun vs H1 s1 h1=>⟨by rw[←cJ h1];exact hl,fun p hp=>?_⟩
  split at h
  ·rename_i hs
   cases h
   rw[jF]at hs
   exact q _ _ (s1.trans (cq hp)) (Rp.tup (.inl a9) ((h1.gf fun md hm v hv=>hv.bM (hs md hm)).keep (.same (cq hp))))
  ·split at h
   ·rename_i hs
    cases h
    rw[jF]at hs
    exact q _ _ (s1.trans (cq hp)) (Rp.tup (.inl a9) ((h1.gf fun md hm v hv=>hv.gi (hs md hm)).keep (.same (cq hp))))
   ·split at h
    ·rename_i hs
     cases h
     rw[jF]at hs
     exact q _ _ (s1.trans (cq hp)) (Rp.tup (.inl a9) ((h1.gf fun md hm v hv=>hv.uP (hs md hm)).keep (.same (cq hp))))
    ·cases h
 ·cases h
noncomputable def dO(m:M)(ds:List D):Option (M×D) :=
 if aG m=.al then (if D.bH ds=true then some (.un,.lst ds)else some (.al,.lst ds))else if aG m=.rb then (if D.bH ds=true then some (.un,.lst ds)else none)else some (.un,.lst ds)
theorem sx{p:Addr}{xs:List V}{ds:List D}{m m':M}{d:D}(od:∀a,O a→∃o,H a=some o)(hd:∀a o,H₀ a=some o→∃o',H a=some o')(hp:H p=none)(r:aq K (NM H₀ O (aG m)) H xs ds)(h:dO m ds=some (m',d)):Val K H₀ O H (upd H p (.lst xs)) m' d (.ref p):=by
 unfold dO at h
 split at h
 ·rename_i e
  rw[e]at r
  split at h
  ·rename_i e;cases h;exact vI od hd hp (aq.im e r)
  ·cases h;exact Rp.lst (.inl a9) (ig od hp) (r.keep (.same (cq hp)))
 ·split at h
  ·split at h
   ·rename_i e;cases h;exact vI od hd hp (aq.im e r)
   ·cases h
  ·rename_i e1 e2
   cases h
   have e:aG m=.fr:=by cases m<;>simp[aG]at e1 e2 ⊢
   rw[e]at r
   exact vI od hd hp r
def jO(K:PySem.W.Frag)(r:List V→Hp→VK→Prop)(g:List (M×D)→Option (M×D)):Prop :=
 ∀H₀ O H vs ak Q m d,(∀a,O a→∃o,H a=some o)→(∀a o,H₀ a=some o→∃o',H a=some o')→fh K H₀ O HE H ak vs→g ak=some (m,d)→(∀v H',aA H H'→Val K H₀ O H H' m d v→Q v H')→r vs H Q
noncomputable def aD(g:List (M×D)→Option (M×D))(fs:Ev→Option (List (M×D))):Ev→Option (M×D):=fun e=>(fs e).bind g
theorem Vs{r:List V→Hp→VK→Prop}{g:List (M×D)→Option (M×D)}{ta:TA}{fs:Ev→Option (List (M×D))}(hr:jO K r g)(ha:gQ K ta fs):JT K (yp r ta) (aD g fs):=by
 intro H₀ O H σ env Q m d R h q
 obtain⟨ak,e,h⟩:=ao h
 refine ha H₀ O H σ env _ ak R e fun vs H1 s1 h1=>?_
 have R1:=R.keep s1
 exact hr H₀ O H1 vs ak Q m d R1.od R1.hd (j8 (fun _ _ z=>z.h0) h1) h fun v H3 s3 h3=>q v H3 (s1.trans s3) (h3.hb fun a z=>s1.free z)
theorem fh.one{Hb:Hp}{a:M×D}{vs:List V}(h:fh K H₀ O Hb H [a] vs):∃v,vs=[v]∧Val K H₀ O Hb H a.1 a.2 v:=by
 cases h with|cons q t=>cases t;exact⟨_,rfl,q⟩
theorem fh.two{Hb:Hp}{a b:M×D}{vs:List V}(h:fh K H₀ O Hb H [a,b] vs):∃v w,vs=[v,w]∧Val K H₀ O Hb H a.1 a.2 v∧Val K H₀ O Hb H b.1 b.2 w:=by
 cases h with|cons q t=>cases t with|cons q' t=>cases t;exact⟨_,_,rfl,q,q'⟩
noncomputable def bI:List (M×D)→Option (M×D)
 |[(_,.lst ds)]=>some (.fr,.int ds.length)
 |[(_,.tup ds)]=>some (.fr,.int ds.length)
 |[(_,.str z)]=>if z.length≤sizeLine then some (.fr,.int z.length)else none
 |_=>none
theorem QK:jO K (fun xs H Q=>∃x n,xs=[x]∧AX K x H n∧Q (.int n) H) bI:=by
 intro H₀ O H vs ak Q m d _ _ hv h q
 unfold bI at h
 split at h
 ·cases h
  obtain⟨v,rfl,hw⟩:=hv.one
  obtain⟨a,xs,rfl,r,s⟩:=hw.lst
  exact⟨_,_,rfl,.inl ⟨xs,r,s.len.symm⟩,q _ H (aA.refl H) j9⟩
 ·cases h
  obtain⟨v,rfl,hw⟩:=hv.one
  obtain⟨a,xs,rfl,r,s⟩:=hw.tup
  exact⟨_,_,rfl,.inr ⟨xs,r,s.len.symm⟩,q _ H (aA.refl H) j9⟩
 ·split at h
  ·rename_i hz
   cases h
   obtain⟨v,rfl,hw⟩:=hv.one
   obtain rfl:=hw.str
   exact⟨_,_,rfl,⟨hz,rfl⟩,q _ H (aA.refl H) j9⟩
  ·cases h
 ·cases h
noncomputable def tW:List (M×D)→Option (M×D)
 |[(_,.int i)]=>some (.fr,.int (if i<0 then -i else i))
 |_=>none
theorem QL:jO K (fun xs H Q=>∃i,xs=[.int i]∧Q (.int (if i<0 then -i else i)) H) tW:=by
 intro H₀ O H vs ak Q m d _ _ hv h q
 unfold tW at h
 split at h
 ·cases h
  obtain⟨v,rfl,hw⟩:=hv.one
  obtain rfl:=hw.int
  exact⟨_,rfl,q _ H (aA.refl H) j9⟩
 ·cases h
noncomputable def c7:List (M×D)→Option (M×D)
 |[(_,.int i)]=>some (.fr,.int i)
 |[(_,.bl k)]=>some (.fr,.int (if k then 1 else 0))
 |_=>none
theorem QM:jO K (fun xs H Q=>(∃i,xs=[.int i]∧Q (.int i) H)∨∃k,xs=[.bl k]∧Q (.int (if k then 1 else 0)) H) c7:=by
 intro H₀ O H vs ak Q m d _ _ hv h q
 unfold c7 at h
 split at h
 ·cases h
  obtain⟨v,rfl,hw⟩:=hv.one
  obtain rfl:=hw.int
  exact .inl ⟨_,rfl,q _ H (aA.refl H) j9⟩
 ·cases h
  obtain⟨v,rfl,hw⟩:=hv.one
  obtain rfl:=hw.bl
  exact .inr ⟨_,rfl,q _ H (aA.refl H) j9⟩
 ·cases h
noncomputable def qu:List (M×D)→Option (M×D)
 |[(m,.lst ds)]=>dO m ds
 |[(m,.tup ds)]=>dO m ds
 |_=>none
theorem O9:jO K (fun xs H Q=>∃p ys,xs=[.ref p]∧(bw K H p ys∨bf K H p ys)∧∀l,H l=none→Q (.ref l) (upd H l (.lst ys))) qu:=by
 intro H₀ O H vs ak Q m d od hd hv h q
 unfold qu at h
 split at h
 ·obtain⟨v,rfl,hw⟩:=hv.one
  obtain⟨a,xs,rfl,r,s⟩:=hw.lst
  exact⟨_,_,rfl,.inl r,fun l hl=>q _ _ (cq hl) (sx od hd hl s h)⟩
 ·obtain⟨v,rfl,hw⟩:=hv.one
  obtain⟨a,xs,rfl,r,s⟩:=hw.tup
  exact⟨_,_,rfl,.inr r,fun l hl=>q _ _ (cq hl) (sx od hd hl s h)⟩
 ·cases h
def uR(K:PySem.W.Frag)(t:TO)(f:Ev→Option (Option Int)):Prop :=
 ∀H₀ O H σ env Q b,cZ K H₀ O H σ env→f env=some b→(∀H',aA H H'→Q b H')→t σ H Q
noncomputable def gu:Ev→Option (Option Int):=fun _=>some none
noncomputable def oJ:M×D→Option Int
 | (_,.int i)=>some i
 |_=>none
theorem zQ{a:M×D}{b:Int}(h:oJ a=some b):a.2=.int b:=by
 obtain⟨m,d⟩:=a
 cases d<;>simp only[oJ]at h<;>first | (cases h;rfl)|cases h
noncomputable def fF(f:Ev→Option (M×D)):Ev→Option (Option Int):=fun e=>(f e).bind fun x=>(oJ x).map some
theorem Pa:uR K FV gu:=by
 intro H₀ O H σ env Q b R h q
 cases h
 exact q H (aA.refl H)
theorem Pb{t:TE}{f:Ev→Option (M×D)}(h:JT K t f):uR K (HY t) (fF f):=by
 intro H₀ O H σ env Q b R e q
 obtain⟨a,ea,e⟩:=ao e
 cases ei:oJ a with
 |none=>rw[ei]at e;cases e
 |some i =>
  rw[ei]at e;cases e
  refine h H₀ O H σ env _ a.1 a.2 R ea fun x H1 s1 h1=>?_
  rw[zQ ei]at h1
  exact⟨i,h1.int,q H1 s1⟩
def mv(K:PySem.W.Frag)(r:V→Option Int→Option Int→Hp→VK→Prop)(g:M×D→Option Int→Option Int→Option (M×D)):Prop :=
 ∀H₀ O H x lo hi a Q m d,(∀a,O a→∃o,H a=some o)→(∀a o,H₀ a=some o→∃o',H a=some o')→Val K H₀ O HE H (Prod.fst a) a.2 x→g a lo hi=some (m,d)→(∀v H',aA H H'→Val K H₀ O H H' m d v→Q v H')→r x lo hi H Q
noncomputable def gj(g:M×D→Option Int→Option Int→Option (M×D))(f:Ev→Option (M×D))(l u:Ev→Option (Option Int)):Ev→Option (M×D):=fun e=>(f e).bind fun x=>(l e).bind fun lo=>(u e).bind fun hi=>g x lo hi
theorem Vt{r:V→Option Int→Option Int→Hp→VK→Prop}{g:M×D→Option Int→Option Int→Option (M×D)}{te:TE}{tl th:TO}{f:Ev→Option (M×D)}{l u:Ev→Option (Option Int)}(hr:mv K r g)(he:JT K te f)(hl:uR K tl l)(hu:uR K th u):JT K (Kt r te tl th) (gj g f l u):=by
 intro H₀ O H σ env Q m d R h q
 obtain⟨x,ex,h⟩:=ao h
 obtain⟨lo,el,h⟩:=ao h
 obtain⟨hi,eh,h⟩:=ao h
 refine he H₀ O H σ env _ x.1 x.2 R ex fun v H1 s1 h1=>?_
 refine hl H₀ O H1 σ env _ lo (R.keep s1) el fun H2 s2=>?_
 refine hu H₀ O H2 σ env _ hi ((R.keep s1).keep s2) eh fun H3 s3=>?_
 have R3:=((R.keep s1).keep s2).keep s3
 exact hr H₀ O H3 v lo hi x Q m d R3.od R3.hd ((h1.keep s2).keep s3).h0 h fun v H4 s4 h4=>q v H4 (((s1.trans s2).trans s3).trans s4) (h4.hb fun a z=>((s1.trans s2).trans s3).free z)
noncomputable def cut{α:Type}(xs:List α)(lo hi:Option Int):List α:=(xs.drop (HT.aS xs.length 0 lo)).take (HT.aS xs.length xs.length hi-HT.aS xs.length 0 lo)
noncomputable def oK:M×D→Option Int→Option Int→Option (M×D)
 | (m,.lst ds),lo,hi=>dO m (cut ds lo hi)
 |_,_,_=>none
theorem aq.cut{N:Addr→Prop}{xs:List V}{ds:List D}{lo hi:Option Int}(r:aq K N H xs ds):aq K N H (iG xs lo hi) (J.cut ds lo hi):=by
 unfold iG J.cut
 rw[r.len]
 exact(r.drop _).take _
theorem Pg:mv K (A0 K) oK:=by
 intro H₀ O H x lo hi a Q m d od hd h1 h q
 obtain⟨ma,da⟩:=a
 cases da<;>try (cases h;done)
 obtain⟨p,xs,rfl,r,s⟩:=h1.lst
 exact⟨p,xs,rfl,r,fun l hl=>q _ _ (cq hl) (sx od hd hl s.cut h)⟩
noncomputable def mJ:M→M→M
 |.al,_=>.al
 |_,.al=>.al
 |.rb,_=>.rb
 |_,.rb=>.rb
 |_,_=>.fr
theorem NM.KG{a b:M}{x:Addr}(ha:aG a≠.rb)(hb:aG b≠.rb)(h:NM H₀ O (aG a) x):NM H₀ O (aG (mJ a b)) x:=by
 cases a<;>cases b<;>first|exact h|exact h.1|exact absurd rfl ha|exact absurd rfl hb
theorem NM.KH{a b:M}{x:Addr}(ha:aG a≠.rb)(hb:aG b≠.rb)(h:NM H₀ O (aG b) x):NM H₀ O (aG (mJ a b)) x:=by
 cases a<;>cases b<;>first|exact h|exact h.1|exact absurd rfl ha|exact absurd rfl hb
noncomputable def qG:M×D→M×D→Option (M×D)
 | (m,.lst ds),(n,.lst es)=>if aG m=.rb∨aG n=.rb then none else if ds.length+es.length≤sizeLine then dO (mJ m n) (ds++es)else none
 |_,_=>none
noncomputable def wN(K:PySem.W.Frag):R2:=fun x y H Q=>∃l b xs zs,x=.ref l∧y=.ref b∧bw K H l xs∧bw K H b zs∧xs.length+zs.length≤sizeLine∧∀p,H p=none→Q (.ref p) (upd H p (.lst (xs++zs)))
theorem TL:JR K (wN K) qG:=by
 intro H₀ O H x y a b Q m d od hd h1 h2 h q
 obtain⟨ma,da⟩:=a;obtain⟨mb,db⟩:=b
 cases da<;>try (cases db<;>cases h;done)
 cases db<;>try (cases h;done)
 simp only[qG]at h
 split at h
 ·cases h
 ·rename_i hn
  split at h
  ·rename_i hl
   obtain⟨p,xs,rfl,r,s⟩:=h1.lst
   obtain⟨p',Cz,rfl,r',s'⟩:=h2.lst
   have n1:aG ma≠.rb:=fun z=>hn (.inl z)
   have n2:aG mb≠.rb:=fun z=>hn (.inr z)
   refine⟨p,p',xs,Cz,rfl,rfl,r,r',by rw[s.len,s'.len];exact hl,fun l hl=>q _ _ (cq hl) (sx od hd hl (aq.app (s.wk fun _ h _=>NM.KG n1 n2 h) (s'.wk fun _ h _=>NM.KH n1 n2 h)) h)⟩
  ·cases h
end
noncomputable def own:M→Bool
 |.bo=>true
 |.bi=>true
 |_=>false
theorem QN{m:M}(h:own m=true):hZ m=true:=by cases m<;>first|rfl|cases h
theorem jX{α β:Type}{F:α→β→Prop}:∀{l:List α}{r:List β},l.length=r.length→(∀(j:Nat) a b,l[j]?=some a→r[j]?=some b→F a b)→Paired F l r
 |[],[],_,_=>.nil
 |a::l,b::r,e,h=>.cons (h 0 a b rfl rfl) (jX (by simpa using e) fun j x y h1 h2=>h (j+1) x y (by simpa using h1) (by simpa using h2))
 |[],_::_,e,_=>by simp at e
 |_::_,[],e,_=>by simp at e
def yA(H:Hp)(σ:St)(env:Ev):Prop :=
 (∀(i j:Nat) (d d':D),env[i]?=some (some (.nb,d))→env[j]?=some (some (.nb,d'))→i=j) ∧
 ∀(i j:Nat) (d:D) (x:M×D) (p q:Addr) (xs:List V),env[i]?=some (some (.nb,d))→σ[i]?=some (some (.ref p))→env[j]?=some (some x)→own x.1=true→σ[j]?=some (some (.ref q))→H p=some (.lst xs)→q≠p∧V.ref q∉xs
structure Rel (K:PySem.W.Frag)(H₀:Hp)(I:Nat→Option Addr)(O:Addr→Prop)(H:Hp)(σ:St)(env:Ev):Prop where
 e:cZ K H₀ O H σ env
 fr:∀a o,(∀i,I i≠some a)→H₀ a=some o→H a=some o
 ow:∀a,O a→(∃i,I i=some a)∨H₀ a=none
 ba:∀(i:Nat) d p,env[i]?=some (some (.bi,d))→σ[i]?=some (some (.ref p))→I i=some p
 dj:∀(i j:Nat) (x y:M×D) (p:Addr),env[i]?=some (some x)→env[j]?=some (some y)→own x.1=true→own y.1=true→σ[i]?=some (some (.ref p))→σ[j]?=some (some (.ref p))→i=j
 nd:yA H σ env
def aF(O:Addr→Prop)(H:Hp)(O':Addr→Prop)(H':Hp):Prop:=∀a o,H a=some o→¬O a→H' a=some o∧¬O' a
inductive Fl where
 |nx (e:Ev)|bk (e:Ev)|ct (e:Ev)|rt (e:Ev) (m:M) (d:D)
noncomputable def lP(K:PySem.W.Frag)(H₀:Hp)(I:Nat→Option Addr)(O:Addr→Prop)(H:Hp)(Ds:Ends):Fl→Prop
 |.nx e=>∀O' H' σ',Rel K H₀ I O' H' σ' e→aF O H O' H'→Ds.nx σ' H'
 |.bk e=>∀O' H' σ',Rel K H₀ I O' H' σ' e→aF O H O' H'→Ds.bk σ' H'
 |.ct e=>∀O' H' σ',Rel K H₀ I O' H' σ' e→aF O H O' H'→Ds.ct σ' H'
 |.rt e m d=>∀O' H' σ' v,Rel K H₀ I O' H' σ' e→aF O H O' H'→Val K H₀ O' HE H' m d v→Ds.rt v H'
def JS(K:PySem.W.Frag)(ts:TS)(g:Ev→Option Fl):Prop :=
 ∀H₀ I O H σ env Ds fl,Rel K H₀ I O H σ env→g env=some fl→lP K H₀ I O H Ds fl→ts Ds σ H
section
variable {K:PySem.W.Frag}{H H' H₀:Hp}{I:Nat→Option Addr}{O O':Addr→Prop}{σ:St}{env:Ev}
theorem aF.refl:aF O H O H:=fun a o h n=>⟨h,n⟩
theorem aF.trans{O1 O2:Addr→Prop}{H1 H2:Hp}(a:aF O H O1 H1)(b:aF O1 H1 O2 H2):aF O H O2 H2:=fun x o h n=>b x o (a x o h n).1 (a x o h n).2
theorem aF.same(s:aA H H'):aF O H O H':=fun a o h n=>⟨s a o h,n⟩
theorem yA.keep(h:yA H σ env)(w:∀(i:Nat) d p,env[i]?=some (some (.nb,d))→σ[i]?=some (some (.ref p))→H' p=H p):yA H' σ env :=
 ⟨h.1,fun i j d x p q xs h1 h2 h3 h4 h5 h6=>h.2 i j d x p q xs h1 h2 h3 h4 h5 (by rw[←w i d p h1 h2];exact h6)⟩
theorem cZ.nest(R:cZ K H₀ O H σ env){i:Nat}{d:D}{p:Addr}(h1:env[i]?=some (some (.nb,d)))(h2:σ[i]?=some (some (.ref p))):∃(qs:List Addr) (aJ:List (List D)),d=.lst (aJ.map D.lst)∧O p∧H₀ p=none∧H p=some (.lst (qs.map V.ref))∧qs.Nodup∧(∀q∈qs,O q∧H₀ q=none∧q≠p) ∧
  Paired (fun q ds=>∃xs,H q=some (.lst xs)∧aq K (fun a=>¬O a∧H₀ a=none) H xs ds) qs aJ:=by
 obtain⟨v,hv,_,hm⟩:=R.at h1
 rw[h2]at hv;cases hv
 obtain⟨p',qs,aJ,e,r⟩:=hm
 cases e
 exact⟨qs,aJ,r⟩
theorem Rel.keep(R:Rel K H₀ I O H σ env)(s:aA H H'):Rel K H₀ I O H' σ env:=⟨R.e.keep s,fun a o n h=>s _ _ (R.fr a o n h),R.ow,R.ba,R.dj,R.nd.keep fun i d p h1 h2=>by
 obtain⟨qs,aJ,_,_,_,e,_⟩:=R.e.nest h1 h2
 rw[s _ _ e,e]⟩
noncomputable def KJ:M→Bool
 |.al=>true
 |.fr=>true
 |_=>false
theorem QO{m:M}(h:KJ m=true):hZ m=true:=by cases m<;>first|rfl|cases h
theorem lP.pre{O1:Addr→Prop}{H1:Hp}{Ds:Ends}{fl:Fl}(s:aF O H O1 H1)(h:lP K H₀ I O H Ds fl):lP K H₀ I O1 H1 Ds fl:=by
 cases fl<;>simp only[lP]at h ⊢
 ·exact fun O' H' σ' R t=>h O' H' σ' R (s.trans t)
 ·exact fun O' H' σ' R t=>h O' H' σ' R (s.trans t)
 ·exact fun O' H' σ' R t=>h O' H' σ' R (s.trans t)
 ·exact fun O' H' σ' v R t=>h O' H' σ' v R (s.trans t)
noncomputable def a8:Ev→Option Fl:=fun e=>some (.nx e)
theorem QP:JS K wG a8:=by
 intro H₀ I O H σ env Ds fl R h q
 cases h
 exact q O H σ R aF.refl
noncomputable def aw(f g:Ev→Option Fl):Ev→Option Fl:=fun e=>(f e).bind fun r=>match r with
 |.nx e'=>g e'
 |.bk e'=>some (.bk e')
 |.ct e'=>some (.ct e')
 |.rt e' m d=>some (.rt e' m d)
theorem TN{t u:TS}{f g:Ev→Option Fl}(ht:JS K t f)(hu:JS K u g):JS K (lN t u) (aw f g):=by
 intro H₀ I O H σ env Ds fl R h q
 obtain⟨r,er,h⟩:=ao h
 refine ht H₀ I O H σ env _ r R er ?_
 cases r with
 |nx e'=>exact fun O' H' σ' R' s=>hu H₀ I O' H' σ' e' Ds fl R' h (q.pre s)
 |bk e'=>cases h;exact q
 |ct e'=>cases h;exact q
 |rt e' m d=>cases h;exact q
noncomputable def aP(f:Ev→Option (M×D)):Ev→Option Fl:=fun e=>(f e).bind fun x=>some (.rt e x.1 x.2)
theorem TQ{t:TE}{f:Ev→Option (M×D)}(h:JT K t f):JS K (tO t) (aP f):=by
 intro H₀ I O H σ env Ds fl R e q
 obtain⟨x,ex,e⟩:=ao e
 cases e
 exact h H₀ O H σ env _ x.1 x.2 R.e ex fun v H1 s1 h1=>q O H1 σ v (R.keep s1) (aF.same s1) h1.h0
noncomputable def Ii:Ev→Option Fl:=fun e=>some (.rt e .fr .non)
noncomputable def aL(c:Ev→Option Bool)(f g:Ev→Option Fl):Ev→Option Fl:=fun e=>(c e).bind fun b=>if b=true then f e else g e
theorem Vu{c:TT}{t u:TS}{fc:Ev→Option Bool}{f g:Ev→Option Fl}(hc:dX K c fc)(ht:JS K t f)(hu:JS K u g):JS K (xn c t u) (aL fc f g):=by
 intro H₀ I O H σ env Ds fl R h q
 obtain⟨b,eb,h⟩:=ao h
 refine hc H₀ O H σ env _ b R.e eb fun H1 s1=>?_
 cases b with
 |true =>
  rw[if_pos rfl]at h ⊢
  exact ht H₀ I O H1 σ env Ds fl (R.keep s1) h (q.pre (aF.same s1))
 |false =>
  rw[if_neg aZ]at h ⊢
  exact hu H₀ I O H1 σ env Ds fl (R.keep s1) h (q.pre (aF.same s1))
noncomputable def Ij:M→Option M
 |.al=>some .al
 |.fr=>some .fr
 |.un=>some .bo
 |.ut=>some .fr
 |_=>none
noncomputable def lE(x:M×D):Option (M×D):=match Ij x.1 with
 |some m=>some (m,x.2)
 |none=>if x.2.bx=true then some (.fr,x.2)else none
theorem Bb{α β:Type}{F:α→β→Prop}{a:α}{b:β}(q:F a b):∀{l:List α}{r:List β} (i:Nat),Paired F l r→Paired F (l.set i a) (r.set i b)
 |_,_,_,.nil=>.nil
 |_,_,0,.cons _ t=>.cons q t
 |_,_,i+1,.cons h t=>.cons h (Bb q i t)
theorem get_set{α:Type}{l:List α}{i j:Nat}{a b:α}(h:(l.set i a)[j]?=some b):(j=i∧b=a)∨(j≠i∧l[j]?=some b):=by
 rw[List.getElem?_set]at h
 split at h
 ·rename_i e
  split at h
  ·exact .inl ⟨e.symm,(c9 h).symm⟩
  ·cases h
 ·rename_i e
  exact .inr ⟨fun z=>e z.symm,h⟩
theorem Rel.qd{i:Nat}{x:M×D}{p:Addr}(R:Rel K H₀ I O H σ env)(hx:env[i]?=some (some x))(ho:own x.1=true)(hp:σ[i]?=some (some (.ref p))):O p∧Cell K (fun a=>¬O a∧H₀ a=none) H p x.2:=by
 obtain⟨m,d⟩:=x
 obtain⟨v,hv,n,hm⟩:=R.e.at hx
 rw[hp]at hv
 cases hv
 cases m<;>simp only[own]at ho<;>try (cases ho;done)
 ·obtain⟨p',e,h1,_,c⟩:=hm;cases e;exact⟨h1,c⟩
 ·obtain⟨p',e,h1,c⟩:=hm;cases e;exact⟨h1,c⟩
theorem zE{F:Addr→List D→Prop}:∀{qs:List Addr}{aJ:List (List D)}{q:Addr},Paired F qs aJ→q∈qs→∃ds,F q ds
 |_,_,_,.nil,h=>nomatch h
 |_,_,_,.cons a t,h=>by
  rcases fK.mp h with rfl|h
  ·exact⟨_,a⟩
  ·exact zE t h
theorem Rel.set_plain{i:Nat}{m:M}{d:D}{v:V}(R:Rel K H₀ I O H σ env)(hm:own m=false)(hu:KJ m=true)(h:Val K H₀ O HE H m d v):Rel K H₀ I O H (σ.set i (some v)) (env.set i (some (m,d))):=by
 refine⟨⟨Bb (fun m' d' q=>?_) i R.e.sl,R.e.od,R.e.hd,R.e.on⟩,R.fr,R.ow,fun i' d' p h1 p1=>?_,fun i' j x y p h1 h2 o1 o2 p1 p2=>?_,⟨fun i' j d1 d2 h1 h2=>?_,fun i' j d1 x p q xs h1 p1 h2 o2 p2 e=>?_⟩⟩
 ·cases q;exact⟨QO hu,v,rfl,h⟩
 ·rcases get_set h1 with⟨rfl,q⟩|⟨n1,q1⟩
  ·cases q;cases hm
  ·rw[cU (fun z=>n1 z.symm)]at p1
   exact R.ba i' d' p q1 p1
 ·rcases get_set h1 with⟨rfl,q⟩|⟨n1,q1⟩
  ·cases q;rw[hm]at o1;cases o1
  ·rcases get_set h2 with⟨rfl,q⟩|⟨n2,q2⟩
   ·cases q;rw[hm]at o2;cases o2
   ·rw[cU (fun z=>n1 z.symm)]at p1
    rw[cU (fun z=>n2 z.symm)]at p2
    exact R.dj i' j x y p q1 q2 o1 o2 p1 p2
 ·rcases get_set h1 with⟨rfl,q⟩|⟨n1,q1⟩
  ·cases q;cases hu
  ·rcases get_set h2 with⟨rfl,q⟩|⟨n2,q2⟩
   ·cases q;cases hu
   ·exact R.nd.1 i' j d1 d2 q1 q2
 ·rcases get_set h1 with⟨rfl,q⟩|⟨n1,q1⟩
  ·cases q;cases hu
  ·rcases get_set h2 with⟨rfl,q⟩|⟨n2,q2⟩
   ·cases q;rw[hm]at o2;cases o2
   ·rw[cU (fun z=>n1 z.symm)]at p1
    rw[cU (fun z=>n2 z.symm)]at p2
    exact R.nd.2 i' j d1 x p q xs q1 p1 q2 o2 p2 e
theorem Rel.TR{i:Nat}{d:D}{v:V}{H1:Hp}(R:Rel K H₀ I O H σ env)(s:aA H H1)(h:Val K H₀ O H H1 .un d v):∃O',Rel K H₀ I O' H1 (σ.set i (some v)) (env.set i (some (.bo,d)))∧aF O H O' H1:=by
 obtain⟨p,rfl,hp,h0,ho,c⟩:=h
 have np:∀a,(∃o,H a=some o)→a≠p:=fun a ⟨o,e⟩=>eD e hp
 have wk:∀{N:Addr→Prop}{d:D}{v:V},Rp K N H v d→Rp K (fun a=>N a∧a≠p) H1 v d:=fun r=>(r.wk fun a n e=>⟨n,np a e⟩).keep (.same s)
 have uS:∀{N:Addr→Prop}{d:D}{q:Addr},Cell K N H q d→Cell K (fun a=>N a∧a≠p) H1 q d:=fun {N d q} r=>by
  obtain⟨o,e,_⟩:=r.some
  exact(r.wk fun a n e=>⟨n,np a e⟩).keep (.same s) ((s _ _ e).trans e.symm)
 obtain⟨o,eo,XG⟩:=c.some
 refine⟨fun a=>O a∨a=p,⟨⟨Bb (fun m' d' q=>?_) i (j8 (fun e x h m d q=>?_) R.e.sl),?_,?_,?_⟩,?_,?_,?_,?_,?_⟩,?_⟩
 ·cases q
  exact⟨rfl,_,rfl,p,rfl,.inr rfl,h0,c.wk fun a h _=>⟨fun z=>z.elim h.1.1 h.2,h.1.2⟩⟩
 ·obtain⟨n,v,rfl,z⟩:=h m d q
  refine⟨n,v,rfl,?_⟩
  cases m
  ·exact(wk z).wk fun a h _=>fun z=>z.elim h.1 h.2
  ·exact(wk z).wk fun a h _=>⟨fun z=>z.elim h.1.1 h.2,h.1.2⟩
  ·cases n
  ·obtain⟨q,rfl,h1,h2,c'⟩:=z
   exact⟨q,rfl,.inl h1,h2,(uS c').wk fun a h _=>⟨fun z=>z.elim h.1.1 h.2,h.1.2⟩⟩
  ·obtain⟨q,rfl,h1,c'⟩:=z
   exact⟨q,rfl,.inl h1,(uS c').wk fun a h _=>⟨fun z=>z.elim h.1.1 h.2,h.1.2⟩⟩
  ·cases n
  ·obtain⟨q,qs,aJ,e1,e2,h1,h2,h3,h4,h5,h6⟩:=z
   exact⟨q,qs,aJ,e1,e2,.inl h1,h2,s _ _ h3,h4,fun x hx=>⟨.inl (h5 x hx).1,(h5 x hx).2⟩,jf (fun x ds _ ⟨xs,a,r⟩=>⟨xs,s _ _ a,((r.wk fun a n e=>(⟨n,np a e⟩:(¬O a∧H₀ a=none)∧a≠p)).keep (.same s)).wk fun a h _=>⟨fun z=>z.elim h.1.1 h.2,h.1.2⟩⟩) h6⟩
  ·cases n
 ·intro a ha
  rcases ha with ha|rfl
  ·obtain⟨o,e⟩:=R.e.od a ha;exact⟨o,s _ _ e⟩
  ·exact⟨o,eo⟩
 ·exact fun a o h=>let ⟨o,e⟩:=R.e.hd a o h;⟨o,s _ _ e⟩
 ·intro a u ha e
  rcases ha with ha|rfl
  ·exact(R.e.keep s).on a u ha e
  ·rw[eo]at e;cases e;exact XG
 ·exact fun a o n h=>s _ _ (R.fr a o n h)
 ·intro a ha
  rcases ha with ha|rfl
  ·exact R.ow a ha
  ·exact .inr h0
 ·intro i' d' p' h1 p1
  rcases get_set h1 with⟨rfl,q⟩|⟨n1,q1⟩
  ·cases q
  ·rw[cU (fun z=>n1 z.symm)]at p1
   exact R.ba i' d' p' q1 p1
 ·intro i' j x y q h1 h2 o1 o2 p1 p2
  rcases get_set h1 with⟨rfl,q1⟩|⟨n1,q1⟩
  ·rcases get_set h2 with⟨rfl,q2⟩|⟨n2,q2⟩
   ·rfl
   ·exfalso
    rw[cU (fun z=>n2 z.symm)]at p2
    rcases get_set p1 with⟨_,z⟩|⟨z,_⟩
    ·cases z
     obtain⟨_,c'⟩:=R.qd q2 o2 p2
     obtain⟨o',e',_⟩:=c'.some
     rw[hp]at e';cases e'
    ·exact z rfl
  ·rcases get_set h2 with⟨rfl,q2⟩|⟨n2,q2⟩
   ·exfalso
    rw[cU (fun z=>n1 z.symm)]at p1
    rcases get_set p2 with⟨_,z⟩|⟨z,_⟩
    ·cases z
     obtain⟨_,c'⟩:=R.qd q1 o1 p1
     obtain⟨o',e',_⟩:=c'.some
     rw[hp]at e';cases e'
    ·exact z rfl
   ·rw[cU (fun z=>n1 z.symm)]at p1
    rw[cU (fun z=>n2 z.symm)]at p2
    exact R.dj i' j x y q q1 q2 o1 o2 p1 p2
 ·refine⟨fun i' j d1 d2 h1 h2=>?_,fun i' j d1 x p' q xs h1 p1 h2 o2 p2 e=>?_⟩
  ·rcases get_set h1 with⟨rfl,z⟩|⟨n1,q1⟩
   ·cases z
   ·rcases get_set h2 with⟨rfl,z⟩|⟨n2,q2⟩
    ·cases z
    ·exact R.nd.1 i' j d1 d2 q1 q2
  ·rcases get_set h1 with⟨rfl,z⟩|⟨n1,q1⟩
   ·cases z
   ·rw[cU (fun z=>n1 z.symm)]at p1
    obtain⟨qs,aJ,_,_,_,e3,_,_,h6⟩:=R.e.nest q1 p1
    rw[s _ _ e3]at e;cases e
    rcases get_set h2 with⟨rfl,z⟩|⟨n2,q2⟩
    ·rcases get_set p2 with⟨_,z⟩|⟨z,_⟩
     ·cases z
      refine⟨(fun z=>by rw[z,e3]at hp;cases hp),fun z=>?_⟩
      obtain⟨a,ha,ea⟩:=de.mp z
      cases ea
      obtain⟨ds,xs,hx,_⟩:=zE h6 ha
      rw[hp]at hx;cases hx
     ·exact absurd rfl z
    ·rw[cU (fun z=>n2 z.symm)]at p2
     exact R.nd.2 i' j d1 x p' q _ q1 p1 q2 o2 p2 e3
 ·intro a o h n
  exact⟨s a o h,fun z=>z.elim n (np a ⟨o,h⟩)⟩
theorem Rel.give{i:Nat}{x y:M×D}{v:V}{H1:Hp}(R:Rel K H₀ I O H σ env)(s:aA H H1)(h:Val K H₀ O H H1 x.1 x.2 v)(e:lE x=some y):∃O',Rel K H₀ I O' H1 (σ.set i (some v)) (env.set i (some y))∧aF O H O' H1:=by
 obtain⟨m,d⟩:=x
 unfold lE at e
 cases m<;>simp only[Ij]at e
 ·cases e;exact⟨O,(R.keep s).set_plain rfl rfl h,.same s⟩
 ·cases e;exact⟨O,(R.keep s).set_plain rfl rfl h,.same s⟩
 ·cases e;exact R.TR s h
 ·split at e
  ·rename_i hi;cases e;exact⟨O,(R.keep s).set_plain rfl rfl (show Rp K _ H1 v d from h.weak.im hi),.same s⟩
  ·cases e
 ·split at e
  ·rename_i hi;cases e;exact⟨O,(R.keep s).set_plain rfl rfl (show Rp K _ H1 v d from h.weak.im hi),.same s⟩
  ·cases e
 ·split at e
  ·rename_i hi;cases e;exact⟨O,(R.keep s).set_plain rfl rfl (show Rp K _ H1 v d from h.weak.im hi),.same s⟩
  ·cases e
 ·split at e
  ·rename_i hi;cases e;exact⟨O,(R.keep s).set_plain rfl rfl (show Rp K _ H1 v d from h.weak.im hi),.same s⟩
  ·cases e
 ·cases e;exact⟨O,(R.keep s).set_plain rfl rfl (show Rp K _ H1 v d from h.bM rfl),.same s⟩
noncomputable def aH(i:Nat)(f:Ev→Option (M×D)):Ev→Option Fl:=fun e=>(f e).bind fun x=>(lE x).bind fun y=>some (.nx (e.set i (some y)))
theorem G6{i:Nat}{t:TE}{f:Ev→Option (M×D)}(h:JT K t f):JS K (gK t (g0 i)) (aH i f):=by
 intro H₀ I O H σ env Ds fl R e q
 obtain⟨x,ex,e⟩:=ao e
 obtain⟨y,ey,e⟩:=ao e
 cases e
 refine h H₀ O H σ env _ x.1 x.2 R.e ex fun v H1 s1 h1=>?_
 obtain⟨O',R',st⟩:=R.give (i:=i) s1 h1 ey
 exact q O' H1 _ R' st
theorem Rel.mut{i:Nat}{m:M}{d d':D}{p:Addr}{o:HO}(R:Rel K H₀ I O H σ env)(hx:env[i]?=some (some (m,d)))(ho:own m=true)(hp:σ[i]?=some (some (.ref p)))
  (c:Cell K (fun a=>¬O a∧H₀ a=none) (upd H p o) p d'):Rel K H₀ I O (upd H p o) σ (env.set i (some (m,d')))∧aF O H O (upd H p o):=by
 obtain⟨hO,c0⟩:=R.qd hx ho hp
 obtain⟨o0,e0,nt⟩:=c0.some
 have kp:∀{N:Addr→Prop},(∀a,N a→¬O a)→Keeps N H (upd H p o):=fun w a u h z=>by
  have gk:a≠p:=by
   rintro rfl
   rcases z with z|z
   ·exact w _ z hO
   ·rw[e0]at h;cases h;exact nt z
  rw[ay gk];exact h
 have hi:i<env.length:=by
  rcases hJ i env.length with h|h
  ·exact h
  ·rw[jG h]at hx;cases hx
 have hσ:σ=σ.set i (some (.ref p)):=by
  refine List.ext_getElem? fun j=>?_
  rw[List.getElem?_set]
  split
  ·rename_i z;subst z
   have hl:i<σ.length:=by rw[←cJ R.e.sl];exact hi
   rw[if_pos hl,hp]
  ·rfl
 refine⟨⟨⟨?_,?_,?_,?_⟩,?_,R.ow,?_,?_,?_⟩,?_⟩
 ·
  have base:∀(j:Nat) (e:Option (M×D)) (x:Option V),(env.set i (some (m,d')))[j]?=some e→σ[j]?=some x→∀m d,e=some (m,d)→hZ m=true∧∃v,x=some v∧Val K H₀ O HE (upd H p o) m d v:=by
   intro j e x he uT m1 d1 q
   subst q
   rcases get_set he with⟨rfl,q⟩|⟨nj,q⟩
   ·cases q
    rw[hp]at uT;cases uT
    refine⟨QN ho,_,rfl,?_⟩
    cases m<;>simp only[own]at ho<;>try (cases ho;done)
    ·obtain⟨v,hv,n,hm⟩:=R.e.at hx
     rw[hp]at hv;cases hv
     obtain⟨p',e,h1,h2,_⟩:=hm;cases e
     exact⟨p,rfl,h1,h2,c⟩
    ·exact⟨p,rfl,hO,c⟩
   ·obtain⟨v,hv,n,hm⟩:=R.e.at q
    rw[uT]at hv;cases hv
    refine⟨n,v,rfl,?_⟩
    have nq:∀{p':Addr},own m1=true→v=.ref p'→p'≠p:=fun {p'} CB ev z=>by
     subst ev;subst z
     exact nj (R.dj j i _ _ p' q hx CB ho uT hp)
    cases m1
    ·exact Rp.keep (kp fun a h=>h) hm
    ·exact Rp.keep (kp fun a h=>h.1) hm
    ·cases n
    ·obtain⟨p',rfl,h1,h2,c'⟩:=hm
     exact⟨p',rfl,h1,h2,c'.keep (kp fun a h=>h.1) (ay (nq rfl rfl))⟩
    ·obtain⟨p',rfl,h1,c'⟩:=hm
     exact⟨p',rfl,h1,c'.keep (kp fun a h=>h.1) (ay (nq rfl rfl))⟩
    ·cases n
    ·obtain⟨p',qs,aJ,rfl,e2,h1,h2,h3,h4,h5,h6⟩:=hm
     obtain⟨z1,z2⟩:=R.nd.2 j i d1 (m,d) p' p _ q uT hx ho hp h3
     refine⟨p',qs,aJ,rfl,e2,h1,h2,by rw[ay (fun z=>z1 z.symm)];exact h3,h4,h5,jf (fun x ds hx ⟨xs,a,r⟩=>⟨xs,?_,r.keep (kp fun a h=>h.1)⟩) h6⟩
     rw[ay (fun z=>z2 (de.mpr ⟨x,hx,by rw[z]⟩))];exact a
    ·cases n
  refine jX ?_ fun j e x h1 h2=>base j e x h1 h2
  rw[hG];exact cJ R.e.sl
 ·intro a ha
  by_cases z:a=p
  ·subst z;exact⟨o,a9⟩
  ·rw[ay z];exact R.e.od a ha
 ·intro a u h
  by_cases z:a=p
  ·subst z;exact⟨o,a9⟩
  ·rw[ay z];exact R.e.hd a u h
 ·intro a u ha e
  by_cases z:a=p
  ·subst z
   obtain⟨o1,e1,n1⟩:=c.some
   rw[e]at e1;cases e1;exact n1
  ·rw[ay z]at e;exact R.e.on a u ha e
 ·intro a u n h
  have z:a≠p:=by
   rintro rfl
   rcases R.ow a hO with⟨i,q⟩|q
   ·exact n i q
   ·rw[h]at q;cases q
  rw[ay z];exact R.fr a u n h
 ·intro i' e' p' h1 p1
  rcases get_set h1 with⟨rfl,q⟩|⟨n1,q1⟩
  ·cases q;exact R.ba _ d p' hx p1
  ·exact R.ba i' e' p' q1 p1
 ·intro i' j x y q h1 h2 o1 o2 p1 p2
  have f:∀{k:Nat}{x:M×D},(env.set i (some (m,d')))[k]?=some (some x)→own x.1=true→∃x',env[k]?=some (some x')∧own x'.1=true:=fun {k x} h o=>by
   rcases get_set h with⟨rfl,q⟩|⟨_,q⟩
   ·exact⟨_,hx,ho⟩
   ·exact⟨x,q,o⟩
  obtain⟨x',a1,b1⟩:=f h1 o1
  obtain⟨y',a2,b2⟩:=f h2 o2
  exact R.dj i' j x' y' q a1 a2 b1 b2 p1 p2
 ·have g:∀{k:Nat}{d1:D},(env.set i (some (m,d')))[k]?=some (some (.nb,d1))→env[k]?=some (some (.nb,d1)):=fun {k d1} h=>by
   rcases get_set h with⟨rfl,q⟩|⟨_,q⟩
   ·cases q;cases ho
   ·exact q
  refine⟨fun i' j d1 d2 h1 h2=>R.nd.1 i' j d1 d2 (g h1) (g h2),fun i' j d1 x p' q xs h1 p1 h2 o2 p2 e=>?_⟩
  obtain⟨qs,aJ,_,_,_,e3,_⟩:=R.e.nest (g h1) p1
  obtain⟨z1,_⟩:=R.nd.2 i' i d1 (m,d) p' p _ (g h1) p1 hx ho hp e3
  rw[ay (fun z=>z1 z.symm)]at e
  rcases get_set h2 with⟨rfl,z⟩|⟨_,z⟩
  ·cases z;exact R.nd.2 i' j d1 (m,d) p' q xs (g h1) p1 hx ho p2 e
  ·exact R.nd.2 i' j d1 x p' q xs (g h1) p1 z o2 p2 e
 ·intro a u h n
  have z:a≠p:=by rintro rfl;exact n hO
  exact⟨by rw[ay z];exact h,n⟩
end
section
variable {K:PySem.W.Frag}{H H' H₀:Hp}{I:Nat→Option Addr}{O O':Addr→Prop}{σ:St}{env:Ev}
noncomputable def gO(i:Nat)(e:Ev):Option (M×List D):=match e[i]? with
 |some (some (m,.lst ds))=>if own m=true then some (m,ds)else none
 |_=>none
theorem F3{i:Nat}{e:Ev}{m:M}{ds:List D}(h:gO i e=some (m,ds)):e[i]?=some (some (m,.lst ds))∧own m=true:=by
 unfold gO at h
 split at h
 ·rename_i e
  split at h
  ·cases h;exact⟨e,by assumption⟩
  ·cases h
 ·cases h
theorem Rel.lst{i:Nat}{m:M}{ds:List D}(R:Rel K H₀ I O H σ env)(h:gO i env=some (m,ds)):∃p xs,σ[i]?=some (some (.ref p))∧O p∧H p=some (.lst xs)∧aq K (fun a=>¬O a∧H₀ a=none) H xs ds:=by
 obtain⟨e,o⟩:=F3 h
 obtain⟨v,hv,n,hm⟩:=R.e.at e
 cases m<;>simp only[own]at o<;>try (cases o;done)
 ·obtain⟨p,rfl,h1,h2,xs,c,r⟩:=hm;exact⟨p,xs,hv,h1,c,r⟩
 ·obtain⟨p,rfl,h1,xs,c,r⟩:=hm;exact⟨p,xs,hv,h1,c,r⟩
theorem aq.upd{xs:List V}{ds:List D}{p:Addr}{o:HO}{o0:HO}(hO:O p)(h0:H p=some o0)(nt:¬fP o0)(r:aq K (fun a=>¬O a∧H₀ a=none) H xs ds):aq K (fun a=>¬O a∧H₀ a=none) (L2.upd H p o) xs ds:=by
 refine r.keep fun a u e z=>?_
 have gk:a≠p:=by
  rintro rfl
  rcases z with z|z
  ·exact z.1 hO
  ·rw[h0]at e;cases e;exact nt z
 rw[ay gk];exact e
theorem Rel.Jy{i:Nat}{m:M}{ds:List D}{p:Addr}{xs ys:List V}{es:List D}(R:Rel K H₀ I O H σ env)(h:gO i env=some (m,ds))(hp:σ[i]?=some (some (.ref p)))(hx:H p=some (.lst xs))(r:aq K (fun a=>¬O a∧H₀ a=none) H ys es) :
  Rel K H₀ I O (L2.upd H p (.lst ys)) σ (env.set i (some (m,.lst es)))∧aF O H O (L2.upd H p (.lst ys)):=by
 obtain⟨e,o⟩:=F3 h
 have hO:=(R.qd e o hp).1
 exact R.mut e o hp ⟨ys,a9,r.upd hO hx (fun z=>z)⟩
noncomputable def bN(i:Nat)(f:Ev→Option (M×D)):Ev→Option Fl:=fun e=>(f e).bind fun x=>if bM x.1 x.2=true then (gO i e).bind fun y=>if y.2.length<sizeLine then some (.nx (e.set i (some (y.1,.lst (y.2++[x.2])))))else none else none
theorem TV{i:Nat}{t:TE}{f:Ev→Option (M×D)}(h:JT K t f):JS K (qo (pw K "list" su (gq i) (lG t kr))) (bN i f):=by
 intro H₀ I O H σ env Ds fl R e q
 obtain⟨x,ex,e⟩:=ao e
 split at e
 ·rename_i hs
  obtain⟨⟨m,ds⟩,ey,e⟩:=ao e
  split at e
  ·rename_i hl
   cases e
   obtain⟨p,xs,hp,hO,hx,r⟩:=R.lst ey
   refine⟨.ref p,hp,.inl ⟨rfl,xs,.inl (.inl hx)⟩,?_⟩
   refine h H₀ O H σ env _ x.1 x.2 R.e ex fun v H1 s1 h1=>?_
   refine⟨p,xs,v,rfl,rfl,s1 _ _ hx,by rw[r.len];exact hl,?_⟩
   have R1:=R.keep s1
   obtain⟨R2,st⟩:=R1.Jy (ys:=xs++[v]) (es:=ds++[x.2]) ey hp (s1 _ _ hx) ((r.keep (.same s1)).app (.cons (h1.bM hs) .nil))
   exact q O _ σ R2 ((aF.same s1).trans st)
  ·cases e
 ·cases e
noncomputable def qe(i:Nat)(fk fe:Ev→Option (M×D)):Ev→Option Fl:=fun e=>(fe e).bind fun x=>(fk e).bind fun k=>(oJ k).bind fun k=>if bM x.1 x.2=true then (gO i e).bind fun y=>(dF y.2.length k).bind fun j=>some (.nx (e.set i (some (y.1,.lst (y.2.set j x.2)))))else none
theorem Ph{i:Nat}{t tk:TE}{f fk:Ev→Option (M×D)}(h:JT K t f)(hk:JT K tk fk):JS K (gK t (Jm (gq i) tk HZ)) (qe i fk f):=by
 intro H₀ I O H σ env Ds fl R e q
 obtain⟨x,ex,e⟩:=ao e
 obtain⟨k,ek,e⟩:=ao e
 obtain⟨k',XH,e⟩:=ao e
 split at e
 ·rename_i hs
  obtain⟨⟨m,ds⟩,ey,e⟩:=ao e
  obtain⟨j,ej,e⟩:=ao e
  cases e
  obtain⟨p,xs,hp,hO,hx,r⟩:=R.lst ey
  refine h H₀ O H σ env _ x.1 x.2 R.e ex fun v H1 s1 h1=>?_
  refine⟨.ref p,hp,?_⟩
  refine hk H₀ O H1 σ env _ k.1 k.2 (R.keep s1).e ek fun w H2 s2 h2=>?_
  rw[zQ XH]at h2
  have s:=s1.trans s2
  refine⟨p,xs,k',j,rfl,h2.int,s _ _ hx,by rw[r.len];exact ej,?_⟩
  obtain⟨R2,st⟩:=(R.keep s).Jy (ys:=xs.set j v) (es:=ds.set j x.2) ey hp (s _ _ hx) ((r.keep (.same s)).set ((h1.keep s2).bM hs) j)
  exact q O _ σ R2 ((aF.same s).trans st)
 ·cases e
noncomputable def aK(i:Nat)(e:Ev):Ev:=match e[i]? with
 |some (some (.bo,d))=>e.set i (some (.fr,d))
 |_=>e
noncomputable def jo(i:Nat)(g:Ev→Option Fl):Ev→Option Fl:=fun e=>g (aK i e)
theorem Rel.aK{i:Nat}(R:Rel K H₀ I O H σ env):∃O',Rel K H₀ I O' H σ (J.aK i env)∧aF O H O' H:=by
 unfold J.aK
 split
 ·rename_i d e
  obtain⟨v,hv,n,p,rfl,hO,h0,c⟩:=R.e.at e
  have hi:i<env.length:=by
   rcases hJ i env.length with h|h
   ·exact h
   ·rw[jG h]at e;cases e
  have W:∀{a:Addr},¬O a→¬(O a∧a≠p):=fun h z=>h z.1
  refine⟨fun a=>O a∧a≠p,⟨⟨?_,fun a h=>R.e.od a h.1,R.e.hd,fun a o h=>R.e.on a o h.1⟩,R.fr,fun a h=>R.ow a h.1,?_,?_,?_⟩,fun a o h n=>⟨h,W n⟩⟩
  ·have base:∀(j:Nat) (y:Option (M×D)) (x:Option V),(env.set i (some (.fr,d)))[j]?=some y→σ[j]?=some x→∀m d,y=some (m,d)→hZ m=true∧∃v,x=some v∧Val K H₀ (fun a=>O a∧a≠p) HE H m d v:=by
    intro j y x hy hx m1 d1 q
    subst q
    rcases get_set hy with⟨rfl,q⟩|⟨nj,q⟩
    ·cases q
     rw[hv]at hx;cases hx
     exact⟨rfl,_,rfl,(c.wk fun a h _=>(⟨W h.1,h.2⟩:¬(O a∧a≠p)∧H₀ a=none)).rp ⟨fun z=>z.2 rfl,h0⟩⟩
    ·obtain⟨v,cF,n1,hm⟩:=R.e.at q
     rw[hx]at cF;cases cF
     refine⟨n1,v,rfl,?_⟩
     have nq:∀{p':Addr},own m1=true→v=.ref p'→p'≠p:=fun {p'} CB ev z=>by
      subst ev;subst z
      exact nj (R.dj j i _ _ p' q e CB rfl hx hv)
     cases m1
     ·exact Rp.wk (fun a h _=>W h) hm
     ·exact Rp.wk (fun a h _=>⟨W h.1,h.2⟩) hm
     ·cases n1
     ·obtain⟨p',rfl,h1,h2,c'⟩:=hm
      exact⟨p',rfl,⟨h1,nq rfl rfl⟩,h2,c'.wk fun a h _=>⟨W h.1,h.2⟩⟩
     ·obtain⟨p',rfl,h1,c'⟩:=hm
      exact⟨p',rfl,⟨h1,nq rfl rfl⟩,c'.wk fun a h _=>⟨W h.1,h.2⟩⟩
     ·cases n1
     ·obtain⟨p',qs,aJ,rfl,e2,h1,h2,h3,h4,h5,h6⟩:=hm
      obtain⟨z1,z2⟩:=R.nd.2 j i d1 (.bo,d) p' p _ q hx e rfl hv h3
      exact⟨p',qs,aJ,rfl,e2,⟨h1,fun z=>z1 z.symm⟩,h2,h3,h4,fun x hx=>⟨⟨(h5 x hx).1,fun z=>z2 (de.mpr ⟨x,hx,by rw[z]⟩)⟩,(h5 x hx).2⟩,jf (fun x ds _ ⟨xs,a,r⟩=>⟨xs,a,r.wk fun a h _=>⟨W h.1,h.2⟩⟩) h6⟩
     ·cases n1
   refine jX ?_ fun j e x h1 h2=>base j e x h1 h2
   rw[hG];exact cJ R.e.sl
  ·intro i' d' p' h1 p1
   rcases get_set h1 with⟨rfl,z⟩|⟨_,z1⟩
   ·cases z
   ·exact R.ba i' d' p' z1 p1
  ·intro i' j x y q h1 h2 o1 o2 p1 p2
   rcases get_set h1 with⟨rfl,z⟩|⟨_,z1⟩
   ·cases z;cases o1
   ·rcases get_set h2 with⟨rfl,z⟩|⟨_,z2⟩
    ·cases z;cases o2
    ·exact R.dj i' j x y q z1 z2 o1 o2 p1 p2
  ·refine⟨fun i' j d1 d2 h1 h2=>?_,fun i' j d1 x p' q xs h1 p1 h2 o2 p2 e'=>?_⟩
   ·rcases get_set h1 with⟨rfl,z⟩|⟨_,z1⟩
    ·cases z
    ·rcases get_set h2 with⟨rfl,z⟩|⟨_,z2⟩
     ·cases z
     ·exact R.nd.1 i' j d1 d2 z1 z2
   ·rcases get_set h1 with⟨rfl,z⟩|⟨_,z1⟩
    ·cases z
    ·rcases get_set h2 with⟨rfl,z⟩|⟨_,z2⟩
     ·cases z;cases o2
     ·exact R.nd.2 i' j d1 x p' q xs z1 p1 z2 o2 p2 e'
 ·exact⟨O,R,aF.refl⟩
theorem TX{i:Nat}{t:TS}{g:Ev→Option Fl}(h:JS K t g):JS K t (jo i g):=by
 intro H₀ I O H σ env Ds fl R e q
 obtain⟨O',R',st⟩:=R.aK (i:=i)
 exact h H₀ I O' H σ _ Ds fl R' e (q.pre st)
theorem Rp.XI{N:Addr→Prop}{v:V}{d:D}{O2:Addr→Prop}{H2:Hp}(on:∀a o,O a→H a=some o→¬fP o)(st:aF O H O2 H2)(w:∀a,N a→¬O a)(r:Rp K N H v d):Rp K (fun a=>N a∧¬O2 a) H2 v d:=by
 refine(Rp.wk (N':=fun a=>N a∧¬O2 a) (fun a n ⟨o,e⟩=>⟨n,(st a o e (w a n)).2⟩) r).keep fun a o e z=>?_
 refine(st a o e ?_).1
 rcases z with z|z
 ·exact w a z.1
 ·exact fun h=>on a o h e z
structure iH (K:PySem.W.Frag)(H₀:Hp)(O:Addr→Prop)(J:It)(H:Hp)(m:M)(ds:List D):Prop where
 go:∀O2 H2 i,aF O H O2 H2→i<ds.length→J.go i H2
 hX:∀O2 H2 i x H3,aF O H O2 H2→i<ds.length→J.hX i H2 x H3→aA H2 H3∧∃d,ds[i]?=some d∧Val K H₀ O2 HE H3 m d x
 stop:∀O2 H2,aF O H O2 H2→J.stop ds.length H2
noncomputable def dB:M→Bool
 |.al=>true
 |.fr=>true
 |_=>false
def JI(K:PySem.W.Frag)(wi:TI)(it:Ev→Option (M×List D)):Prop :=
 ∀H₀ O H σ env R m ds,cZ K H₀ O H σ env→it env=some (m,ds)→(∀J H',aA H H'→dB m=true→iH K H₀ O J H' m ds→R J H')→wi σ H R
noncomputable def ia:M→Option M
 |.al=>some .al
 |.fr=>some .fr
 |.un=>some .fr
 |_=>none
noncomputable def gn(f:Ev→Option (M×D)):Ev→Option (M×List D):=fun e=>(f e).bind fun x=>match x.2 with
 |.lst ds=>(ia x.1).map fun m=>(m,ds)
 |_=>none
theorem F4{m n:M}{ds:List D}{v:V}{Hb:Hp}(e:ia m=some n)(h:Val K H₀ O Hb H m (.lst ds) v):dB n=true∧∃a xs,v=.ref a∧((Rd H a (.lst xs)∧¬O a)∨yy K a xs)∧aq K (NM H₀ O n) H xs ds:=by
 cases m<;>simp only[ia]at e<;>cases e
 ·cases h with
  |lst r n q=>exact⟨rfl,_,_,rfl,.inl ⟨r,n⟩,q⟩
  |lstK r q=>exact⟨rfl,_,_,rfl,.inr r,q⟩
 ·cases h with
  |lst r n q=>exact⟨rfl,_,_,rfl,.inl ⟨r,n.1⟩,q⟩
  |lstK r q=>exact⟨rfl,_,_,rfl,.inr r,q⟩
 ·obtain⟨p,rfl,_,_,h2,xs,q,r⟩:=h;exact⟨rfl,_,_,rfl,.inl ⟨.inl q,h2⟩,r.wk fun a h _=>h.1⟩
theorem NM.no{n:M}{a:Addr}(e:dB n=true)(h:NM H₀ O n a):¬O a:=by
 cases n<;>first|exact h|exact h.1|cases e
theorem vQ{n:M}{d:D}{v:V}{O2:Addr→Prop}{H2:Hp}(e:dB n=true)(on:∀a o,O a→H a=some o→¬fP o)(st:aF O H O2 H2)(r:Rp K (NM H₀ O n) H v d):Val K H₀ O2 HE H2 n d v:=by
 have z:=Rp.XI on st (fun a h=>NM.no e h) r
 cases n
 ·exact z.wk fun a h _=>h.2
 ·exact z.wk fun a h _=>⟨h.2,h.1.2⟩
 ·cases e
 ·cases e
 ·cases e
 ·cases e
 ·cases e
 ·cases e
theorem NR{a:Addr}{xs:List V}{ds:List D}{n:M}(e:dB n=true)(on:∀a o,O a→H a=some o→¬fP o)(hr:(Rd H a (.lst xs)∧¬O a)∨yy K a xs)(r:aq K (NM H₀ O n) H xs ds):iH K H₀ O (B6 K a) H n ds:=by
 have st:∀{O2:Addr→Prop}{H2:Hp},aF O H O2 H2→bw K H2 a xs:=fun {O2 H2} s=>by
  rcases hr with⟨h|⟨o,h⟩,ha⟩|h
  ·exact .inl (.inl (s _ _ h ha).1)
  ·exact .inl (.inr ⟨o,(s _ _ h ha).1⟩)
  ·exact .inr h
 refine⟨fun O2 H2 i s hi=>?_,fun O2 H2 i x H3 s hi y=>?_,fun O2 H2 s=>⟨xs,st s,by rw[r.len];exact aR _⟩⟩
 ·exact⟨xs,xs[i]'(by rw[r.len];exact hi),st s,by simp⟩
 ·obtain⟨rfl,y⟩:=y
  have y:=y xs (st s)
  obtain⟨v,hv,rv⟩:=r.get (i:=i) (d:=ds[i]) (by simp[hi])
  rw[y]at hv;cases hv
  exact⟨aA.refl _,ds[i],by simp[hi],vQ e on s rv⟩
theorem QQ{t:TE}{f:Ev→Option (M×D)}(h:JT K t f):JI K (Ax K t) (gn f):=by
 intro H₀ O H σ env R m ds Re e q
 obtain⟨⟨m0,d0⟩,ex,e⟩:=ao e
 cases d0<;>simp only at e<;>try (cases e;done)
 cases em:ia m0 with
 |none=>rw[em]at e;cases e
 |some n =>
  rw[em]at e;cases e
  refine h H₀ O H σ env _ _ _ Re ex fun v H1 s1 h1=>?_
  obtain⟨e1,a,xs,rfl,hr,r⟩:=F4 em h1
  exact⟨a,rfl,⟨xs,hr.elim (fun z=>.inl z.1) .inr⟩,q _ H1 s1 e1 (NR e1 (Re.keep s1).on hr r)⟩
theorem Pj{a:Addr}{xs:List V}{ds:List D}{n:M}(e:dB n=true)(on:∀a o,O a→H a=some o→¬fP o)(hr:bf K H a xs)(r:aq K (NM H₀ O n) H xs ds):iH K H₀ O (B7 K a) H n ds:=by
 have st:∀{O2:Addr→Prop}{H2:Hp},aF O H O2 H2→bf K H2 a xs:=fun {O2 H2} s=>by
  rcases hr with h|h
  ·exact .inl (s _ _ h fun z=>on _ _ z h trivial).1
  ·exact .inr h
 refine⟨fun O2 H2 i s hi=>?_,fun O2 H2 i x H3 s hi y=>?_,fun O2 H2 s=>⟨xs,st s,by rw[r.len];exact aR _⟩⟩
 ·exact⟨xs,xs[i]'(by rw[r.len];exact hi),st s,by simp⟩
 ·obtain⟨rfl,y⟩:=y
  have y:=y xs (st s)
  obtain⟨v,hv,rv⟩:=r.get (i:=i) (d:=ds[i]) (by simp[hi])
  rw[y]at hv;cases hv
  exact⟨aA.refl _,ds[i],by simp[hi],vQ e on s rv⟩
noncomputable def yB(f:Ev→Option (M×D)):Ev→Option (M×List D):=fun e=>(f e).bind fun x=>match x.2 with
 |.tup ds=>(ia x.1).map fun m=>(m,ds)
 |_=>none
theorem TY{t:TE}{f:Ev→Option (M×D)}(h:JT K t f):JI K (AV K t) (yB f):=by
 intro H₀ O H σ env R m ds Re e q
 obtain⟨⟨m0,d0⟩,ex,e⟩:=ao e
 cases d0<;>simp only at e<;>try (cases e;done)
 cases em:ia m0 with
 |none=>rw[em]at e;cases e
 |some n =>
  rw[em]at e;cases e
  refine h H₀ O H σ env _ _ _ Re ex fun v H1 s1 h1=>?_
  obtain⟨a,xs,rfl,hr,r⟩:=h1.tup
  have e1:aG m0=m∧dB m=true:=by clear ex h1 r;cases m0<;>cases em<;>exact⟨rfl,rfl⟩
  rw[e1.1]at r
  exact⟨a,rfl,⟨xs,hr⟩,q _ H1 s1 e1.2 (Pj e1.2 (Re.keep s1).on hr r)⟩
noncomputable def fM(lo:Int)(n:Nat):List D:=(List.range n).map fun(k:Nat)=>.int (lo+(k:Int))
theorem Pk{lo:Int}{n:Nat}:iH K H₀ O (ym lo n) H .fr (fM lo n):=by
 have l:(fM lo n).length=n:=by simp[fM]
 refine⟨fun O2 H2 i s hi=>by rw[l]at hi;exact hi,fun O2 H2 i x H3 s hi y=>?_,fun O2 H2 s=>by rw[l];exact aR n⟩
 obtain⟨rfl,rfl⟩:=y
 rw[l]at hi
 exact⟨aA.refl _,.int (lo+i),by simp[fM,hi],Rp.int _⟩
theorem KL:(2:Int)^62=4611686018427387904:=by decide
noncomputable def iI(fs:Ev→Option (List (M×D))):Ev→Option (M×List D):=fun e=>(fs e).bind fun l=>match l with
 |[(_,.int j)]=>if -4611686018427387904≤j∧j<4611686018427387904 then some (.fr,fM 0 j.toNat)else none
 |_=>none
theorem QR{t:TA}{fs:Ev→Option (List (M×D))}(h:gQ K t fs):JI K (HW t) (iI fs):=by
 intro H₀ O H σ env R m ds Re e q
 obtain⟨l,el,e⟩:=ao e
 split at e
 ·split at e
  ·rename_i hj
   cases e
   refine h H₀ O H σ env _ _ Re el fun vs H1 s1 h1=>?_
   obtain⟨v,rfl,hv⟩:=h1.one
   obtain rfl:=hv.int
   exact⟨_,rfl,by rw[KL];exact hj.1,by rw[KL];exact hj.2,q _ H1 s1 rfl Pk⟩
  ·cases e
 ·cases e
end
section
variable {K:PySem.W.Frag}{H H' H₀:Hp}{I:Nat→Option Addr}{O O':Addr→Prop}{σ:St}{env:Ev}
def JG(K:PySem.W.Frag)(g:TG)(fg:M×D→Ev→Option Ev):Prop :=
 ∀H₀ I O H σ env x v env' Q,Rel K H₀ I O H σ env→dB (Prod.fst x)=true→Val K H₀ O HE H (Prod.fst x) x.2 v→fg x env=some env'→(∀σ',Rel K H₀ I O H σ' env'→Q σ' H)→g v σ H Q
def rD(K:PySem.W.Frag)(g:gP)(fg:M→List D→Ev→Option Ev):Prop :=
 ∀H₀ I O H σ env m ds vs env' Q,Rel K H₀ I O H σ env→dB m=true→aq K (NM H₀ O m) H vs ds→fg m ds env=some env'→(∀σ',Rel K H₀ I O H σ' env'→Q σ' H)→g vs σ H Q
noncomputable def gN(i:Nat):M×D→Ev→Option Ev:=fun x e=>some (e.set i (some x))
theorem QS{i:Nat}:JG K (g0 i) (gN i):=by
 intro H₀ I O H σ env x v env' Q R hm hv e q
 cases e
 obtain⟨m,d⟩:=x
 exact q _ (R.set_plain (by cases m<;>first|rfl|cases hm) (by cases m<;>first|rfl|cases hm) hv)
noncomputable def fG:M→List D→Ev→Option Ev:=fun _ ds e=>match ds with
 |[]=>some e
 |_=>none
noncomputable def b8(f:M×D→Ev→Option Ev)(g:M→List D→Ev→Option Ev):M→List D→Ev→Option Ev:=fun m ds e=>match ds with
 |d::r=>(f (m,d) e).bind fun e'=>g m r e'
 |[]=>none
theorem QT:rD K Jk fG:=by
 intro H₀ I O H σ env m ds vs env' Q R hm hv e q
 cases hv with
 |nil=>cases e;exact⟨rfl,q _ R⟩
 |cons=>cases e
theorem Pl{g:TG}{gs:gP}{f:M×D→Ev→Option Ev}{fs:M→List D→Ev→Option Ev}(h:JG K g f)(hs:rD K gs fs):rD K (HV g gs) (b8 f fs):=by
 intro H₀ I O H σ env m ds vs env' Q R hm hv e q
 cases hv with
 |nil=>cases e
 |@cons v d vs ds hv r =>
  obtain⟨e',e1,e⟩:=ao e
  refine⟨v,vs,rfl,?_⟩
  have cF:Val K H₀ O HE H m d v:=by cases m<;>first|exact hv|cases hm
  exact h H₀ I O H σ env (m,d) v e' _ R hm cF e1 fun σ' R'=>hs H₀ I O H σ' e' m ds vs env' Q R' hm r e q
noncomputable def gT(n:Nat)(f:M→List D→Ev→Option Ev):M×D→Ev→Option Ev:=fun x e=>match x.2 with
 |.tup ds=>if ds.length=n then f (aG x.1) ds e else none
 |_=>none
theorem T1{n:Nat}{gs:gP}{fs:M→List D→Ev→Option Ev}(hs:rD K gs fs):JG K (Jl K n gs) (gT n fs):=by
 intro H₀ I O H σ env x v env' Q R hm hv e q
 obtain⟨m,d⟩:=x
 cases d<;>simp only[gT]at e<;>try (cases e;done)
 split at e
 ·rename_i hl
  obtain⟨a,xs,rfl,CD,r⟩:=hv.tup
  exact⟨a,xs,rfl,CD,by rw[r.len];exact hl,hs H₀ I O H σ env (aG m) _ xs env' Q R (by cases m<;>first|rfl|cases hm) r e q⟩
 ·cases e
noncomputable def gL(n:Nat)(f:M→List D→Ev→Option Ev):M×D→Ev→Option Ev:=fun x e=>match x.2 with
 |.lst ds=>if ds.length=n then f (aG x.1) ds e else none
 |_=>none
noncomputable def Bc:M→M
 |.un=>.fr
 |m=>m
noncomputable def xD(fg:M×D→Ev→Option Ev)(f:Ev→Option (M×D)):Ev→Option Fl:=fun e=>(f e).bind fun x=>if dB (Bc x.1)=true then (fg (Bc x.1,x.2) e).bind fun e'=>some (.nx e')else none
theorem T2{t:TE}{g:TG}{f:Ev→Option (M×D)}{fg:M×D→Ev→Option Ev}(h:JT K t f)(hg:JG K g fg):JS K (gK t g) (xD fg f):=by
 intro H₀ I O H σ env Ds fl R e q
 obtain⟨⟨m,d⟩,ex,e⟩:=ao e
 split at e
 ·rename_i hm
  obtain⟨e',e1,e⟩:=ao e
  cases e
  refine h H₀ O H σ env _ m d R.e ex fun v H1 s1 h1=>?_
  refine hg H₀ I O H1 σ env _ v e' _ (R.keep s1) hm ?_ e1 fun σ' R'=>q O H1 σ' R' (aF.same s1)
  cases m
  ·exact h1
  ·exact h1
  ·exact h1.bM rfl
  ·cases hm
  ·cases hm
  ·cases hm
  ·cases hm
  ·cases hm
 ·cases e
noncomputable def forL(g:M×D→Ev→Option Ev)(b:Ev→Option Fl)(m:M):List D→Ev→Option Fl
 |[],e=>some (.nx e)
 |d::ds,e=>(g (m,d) e).bind fun e1=>(b e1).bind fun r=>match r with
  |.nx e2=>forL g b m ds e2
  |.ct e2=>forL g b m ds e2
  |.bk e2=>some (.nx e2)
  |.rt e2 m' d'=>some (.rt e2 m' d')
noncomputable def fq(it:Ev→Option (M×List D))(g:M×D→Ev→Option Ev)(b:Ev→Option Fl):Ev→Option Fl:=fun e=>(it e).bind fun x=>forL g b x.1 x.2 e
theorem T3{wi:TI}{g:TG}{tb:TS}{it:Ev→Option (M×List D)}{fg:M×D→Ev→Option Ev}{b:Ev→Option Fl}(hi:JI K wi it)(hg:JG K g fg)(hb:JS K tb b):JS K (km wi g tb) (fq it fg b):=by
 intro H₀ I O H σ env Ds fl R e q
 obtain⟨⟨m,ds⟩,ei,e⟩:=ao e
 refine hi H₀ O H σ env _ m ds R.e ei fun J H1 s1 hm ok=>?_
 have q1:=q.pre (aF.same s1)
 refine⟨fun i n σ2 H2=>∃O2 cO,Rel K H₀ I O2 H2 σ2 cO∧aF O H1 O2 H2∧i≤ds.length∧n=ds.length-i∧forL fg b m (ds.drop i) cO=some fl,⟨_,O,env,R.keep s1,aF.refl,oW _,rfl,e⟩,?_⟩
 rintro i n σ2 H2 ⟨O2,cO,R2,st,hle,rfl,ef⟩
 by_cases aT:i<ds.length
 ·refine .inr ⟨ok.go O2 H2 i st aT,fun σ' H'=>∃O2 cO,Rel K H₀ I O2 H' σ' cO∧aF O H1 O2 H'∧forL fg b m (ds.drop (i+1)) cO=some fl,?_,?_⟩
  ·rintro σ' H' ⟨O3,Bd,R3,f7,CF⟩
   exact⟨ds.length-(i+1),by omega,O3,Bd,R3,f7,aT,rfl,CF⟩
  ·intro x H3 y
   obtain⟨s3,d,hd,hv⟩:=ok.hX O2 H2 i x H3 st aT y
   have uU:ds.drop i=d::ds.drop (i+1):=by
    rw[lV aT]
    rw[bO aT]at hd
    cases hd;rfl
   rw[uU]at ef
   simp only[forL]at ef
   obtain⟨e1,g1,ef⟩:=ao ef
   obtain⟨r,br,ef⟩:=ao ef
   refine hg H₀ I O2 H3 σ2 cO (m,d) x e1 _ (R2.keep s3) hm hv g1 fun σ4 R4=>?_
   have k6:=st.trans (aF.same (O:=O2) s3)
   refine hb H₀ I O2 H3 σ4 e1 _ r R4 br ?_
   cases r with
   |nx e2=>exact fun O5 H5 σ5 R5 dS=>⟨O5,e2,R5,k6.trans dS,ef⟩
   |ct e2=>exact fun O5 H5 σ5 R5 dS=>⟨O5,e2,R5,k6.trans dS,ef⟩
   |bk e2=>cases ef;exact(q1.pre k6)
   |rt e2 m' d'=>cases ef;exact(q1.pre k6)
 ·have hi:i=ds.length:=by omega
  subst hi
  rw[BZ]at ef
  cases ef
  exact .inl ⟨ok.stop O2 H2 st,q1 O2 H2 σ2 R2 st⟩
noncomputable def dP(c:Ev→Option Bool)(b:Ev→Option Fl):Nat→Ev→Option Fl
 |0,_=>none
 |n+1,e=>(c e).bind fun k=>if k=true then (b e).bind fun r=>(match r with
  |.nx e2=>dP c b n e2
  |.ct e2=>dP c b n e2
  |.bk e2=>some (.nx e2)
  |.rt e2 m' d'=>some (.rt e2 m' d'))else some (.nx e)
theorem vC{c:Ev→Option Bool}{b:Ev→Option Fl}{fl:Fl}:∀{n k:Nat}{e:Ev},n≤k→dP c b n e=some fl→dP c b k e=some fl
 |0,_,_,_,h=>by cases h
 |n+1,0,_,h,_=>by omega
 |n+1,k+1,e,hk,h=>by
  simp only[dP]at h ⊢
  obtain⟨x,ex,h⟩:=ao h
  rw[ex,aB]
  cases x with
  |false=>exact h
  |true =>
   rw[if_pos rfl]at h ⊢
   obtain⟨r,er,h⟩:=ao h
   rw[er,aB]
   cases r with
   |nx e2=>exact vC (by omega) h
   |ct e2=>exact vC (by omega) h
   |bk e2=>exact h
   |rt e2 m' d'=>exact h
open Classical in
noncomputable def oj(c:Ev→Option Bool)(b:Ev→Option Fl):Ev→Option Fl:=fun e=>if h:∃n fl,dP c b n e=some fl then some (Classical.choose (ur h))else none
theorem EE{c:Ev→Option Bool}{b:Ev→Option Fl}{fl:Fl}{n:Nat}{e:Ev}(h:dP c b n e=some fl):oj c b e=some fl:=by
 have hx:∃n fl,dP c b n e=some fl:=⟨n,fl,h⟩
 unfold oj
 rw[dif_pos hx]
 have s:=ur (ur hx)
 have a:=vC (Nat.le_max_left n (Classical.choose hx)) h
 have b':=vC (Nat.le_max_right n (Classical.choose hx)) s
 rw[a]at b'
 exact b'.symm
theorem M5{c:Ev→Option Bool}{b:Ev→Option Fl}{fl:Fl}{e:Ev}(h:oj c b e=some fl):∃n,dP c b n e=some fl:=by
 unfold oj at h
 split at h
 ·rename_i hx
  cases h
  exact⟨_,ur (ur hx)⟩
 ·cases h
theorem Pm{c:TT}{tb:TS}{fc:Ev→Option Bool}{b:Ev→Option Fl}(hc:dX K c fc)(hb:JS K tb b):JS K (z9 c tb) (oj fc b):=by
 intro H₀ I O H σ env Ds fl R e q
 obtain⟨n,e⟩:=M5 e
 refine⟨fun n σ2 H2=>∃O2 cO,Rel K H₀ I O2 H2 σ2 cO∧aF O H O2 H2∧dP fc b n cO=some fl,⟨n,O,env,R,aF.refl,e⟩,?_⟩
 rintro n σ2 H2 ⟨O2,cO,R2,st,ef⟩
 cases n with
 |zero=>cases ef
 |succ n =>
  simp only[dP]at ef
  obtain⟨k,ek,ef⟩:=ao ef
  refine hc H₀ O2 H2 σ2 cO _ k R2.e ek fun H3 s3=>?_
  have f7:=st.trans (aF.same (O:=O2) s3)
  cases k with
  |false =>
   rw[if_neg aZ]at ef ⊢
   cases ef
   exact q O2 H3 σ2 (R2.keep s3) f7
  |true =>
   rw[if_pos rfl]at ef ⊢
   obtain⟨r,er,ef⟩:=ao ef
   refine⟨fun σ' H'=>∃O2 cO,Rel K H₀ I O2 H' σ' cO∧aF O H O2 H'∧dP fc b n cO=some fl,fun σ' H' ⟨O3,e3,R3,s3,f3⟩=>⟨n,Nat.lt_succ_self n,O3,e3,R3,s3,f3⟩,?_⟩
   refine hb H₀ I O2 H3 σ2 cO _ r (R2.keep s3) er ?_
   cases r with
   |nx e2=>exact fun O5 H5 σ5 R5 dS=>⟨O5,e2,R5,f7.trans dS,ef⟩
   |ct e2=>exact fun O5 H5 σ5 R5 dS=>⟨O5,e2,R5,f7.trans dS,ef⟩
   |bk e2=>cases ef;exact(q.pre f7)
   |rt e2 m' d'=>cases ef;exact(q.pre f7)
noncomputable def wO(K:PySem.W.Frag)(H H':Hp):M→D→V→Prop
 |.un,d,v=>∃p,v=.ref p∧H p=none∧Cell K (fun a=>H a=none∧a≠p) H' p d
 |.fr,d,v=>Rp K (fun a=>H a=none) H' v d
 |.ut,d,v=>dz K (fun q=>H q=none) H' d v
 |_,_,_=>False
noncomputable def k7(K:PySem.W.Frag)(n:Nat)(F:List D→Option (M×D)):Sp:=fun vs H Q _=>vs.length=n∧∃ds m d,aq K (fun _=>True) H vs ds∧F ds=some (m,d)∧∀v H',aA H H'→wO K H H' m d v→Q v H'
noncomputable def out:Fl→Option (M×D)
 |.nx _=>some (.fr,.non)
 |.rt _ .un d=>some (.un,d)
 |.rt _ .bo d=>some (.un,d)
 |.rt _ .fr d=>some (.fr,d)
 |.rt _ .rb d=>some (.fr,d)
 |.rt _ .nb d=>some (.fr,d)
 |.rt _ .ut d=>some (.ut,d)
 |.rt _ .al d=>if d.bx=true then some (.fr,d)else none
 |_=>none
noncomputable def fn(L:Nat)(g:Ev→Option Fl):List D→Option (M×D):=fun ds=>(g (ds.map (fun d=>some (.al,d))++List.replicate (L-ds.length) none)).bind out
theorem NS{vs:List V}{ds:List D}(r:aq K (fun _=>True) H vs ds)(k:Nat):Paired (fun(e:Option (M×D)) (x:Option V)=>∀m d,e=some (m,d)→hZ m=true∧∃v,x=some v∧Val K H (fun _=>False) HE H m d v) (ds.map (fun d=>some (.al,d))++List.replicate k none) (vs.map some++List.replicate k none):=by
 have rep:∀k,Paired (fun(e:Option (M×D)) (x:Option V)=>∀m d,e=some (m,d)→hZ m=true∧∃v,x=some v∧Val K H (fun _=>False) HE H m d v) (List.replicate k none) (List.replicate k none):=fun k=>by
  induction k with
  |zero=>exact .nil
  |succ k ih=>exact .cons (fun m d e=>nomatch e) ih
 have go:∀{vs:List V}{ds:List D},aq K (fun _=>True) H vs ds→Paired (fun(e:Option (M×D)) (x:Option V)=>∀m d,e=some (m,d)→hZ m=true∧∃v,x=some v∧Val K H (fun _=>False) HE H m d v) (ds.map (fun d=>some (.al,d))++List.replicate k none) (vs.map some++List.replicate k none):=by
  intro vs ds
  induction vs generalizing ds with
  |nil=>intro r;cases r;exact rep k
  |cons v vs ih=>intro r;cases r with|cons h r=>exact .cons (fun m d e=>by cases e;exact⟨rfl,v,rfl,h.wk fun _ _ _ z=>z⟩) (ih r)
 exact go r
theorem NT{ds:List D}{k i:Nat}{d:D}(h:(ds.map (fun d=>some (M.al,d))++List.replicate k none)[i]?=some (some (M.bi,d))):False:=by
 have hm:=fB h
 rcases fX.mp hm with z|z
 ·obtain⟨d,_,e⟩:=de.mp z;cases e
 ·have:=yf z;cases this
theorem Eh{ds:List D}{k i:Nat}{d:D}(h:(ds.map (fun d=>some (M.al,d))++List.replicate k none)[i]?=some (some (M.nb,d))):False:=by
 have hm:=fB h
 rcases fX.mp hm with z|z
 ·obtain⟨d,_,e⟩:=de.mp z;cases e
 ·have:=yf z;cases this
theorem F5{ts:TS}{g:Ev→Option Fl}{n:Nat}{N:List Str}{vs:List V}{Q:VK}{E:XK}(h:JS K ts g)(hs:k7 K n (fn N.length g) vs H Q E):ts { nx:=fun _ H'=>Q .non H',rt:=Q } (L2.start N vs) H:=by
 obtain⟨hl,ds,m,d,r,e,q⟩:=hs
 obtain⟨fl,ef,eo⟩:=ao e
 have R:Rel K H (fun _=>none) (fun _=>False) H (L2.start N vs) (ds.map (fun d=>some (.al,d))++List.replicate (N.length-ds.length) none) :=
  ⟨⟨by unfold L2.start;rw[r.len];exact NS r _,fun _ z=>z.elim,fun a o e=>⟨o,e⟩,fun _ _ z=>z.elim⟩,fun a o _ e=>e,fun _ z=>z.elim,fun i d p h1=>(NT h1).elim,(fun i j x y p h1 h2 o1 o2=>by
   exfalso
   have k:∀{i:Nat}{x:M×D},(ds.map (fun d=>some (M.al,d))++List.replicate (N.length-ds.length) none)[i]?=some (some x)→x.1=.al:=fun {i x} h=>by
    have hm:=fB h
    rcases fX.mp hm with z|z
    ·obtain⟨d,_,e⟩:=de.mp z;cases e;rfl
    ·have:=yf z;cases this
   rw[k h1]at o1;cases o1),⟨fun i j d d' h1=>(Eh h1).elim,fun i j d x p q xs h1=>(Eh h1).elim⟩⟩
 refine h H (fun _=>none) (fun _=>False) H _ _ _ fl R ef ?_
 cases fl with
 |nx e'=>cases eo;exact fun O' H' σ' R' st=>q .non H' (fun a o e=>R'.fr a o (fun _ z=>nomatch z) e) Rp.non
 |bk e'=>cases eo
 |ct e'=>cases eo
 |rt e' m' d' =>
  intro O' H' σ' v R' st hv
  have sm:aA H H':=fun a o e=>R'.fr a o (fun _ z=>nomatch z) e
  cases m'<;>simp only[out]at eo
  ·split at eo
   ·rename_i hi;cases eo;exact q v H' sm (show Rp K _ H' v d from hv.weak.im hi)
   ·cases eo
  ·cases eo;exact q v H' sm (show Rp K _ H' v d from Rp.wk (fun a h _=>h.2) hv)
  ·cases eo
   obtain⟨p,rfl,_,h0,_,c⟩:=hv
   exact q _ H' sm ⟨p,rfl,h0,c.wk fun a h _=>⟨h.1.2,h.2⟩⟩
  ·cases eo
   obtain⟨p,rfl,hO,h0,c⟩:=hv
   exact q _ H' sm ⟨p,rfl,h0,c.wk fun a h _=>⟨h.2,fun z=>h.1 (z▸hO)⟩⟩
  ·cases eo
  ·cases eo;exact q v H' sm (show Rp K _ H' v d from hv)
  ·cases eo;exact q v H' sm (show Rp K _ H' v d from g9.rp (fun _ z=>z) hv)
  ·cases eo;exact q v H' sm (show dz K _ H' d v from dz.wk (fun q z=>z.2.1) hv)
noncomputable def aI(F:List D→Option (M×D))(fs:Ev→Option (List (M×D))):Ev→Option (M×D):=fun e=>(fs e).bind fun ak=>F (ak.map (·.2))
theorem zR{m:M}{d:D}{v:V}(od:∀a,O a→∃o,H a=some o)(hd:∀a o,H₀ a=some o→∃o',H a=some o')(h:wO K H H' m d v):Val K H₀ O H H' m d v:=by
 cases m<;>try exact h.elim
 ·exact Rp.wk (fun a h _=>⟨ig od h,lC hd h⟩) h
 ·obtain⟨p,rfl,hp,c⟩:=h
  exact⟨p,rfl,hp,lC hd hp,ig od hp,c.wk fun a h _=>⟨⟨ig od h.1,lC hd h.1⟩,h.2⟩⟩
 ·exact dz.wk (fun q z=>⟨z,lC hd z,ig od z⟩) h
theorem QV{n:Nat}{F:List D→Option (M×D)}{ta:TA}{fs:Ev→Option (List (M×D))}{E:XK}(ha:gQ K ta fs)(hl:∀e ak,fs e=some ak→ak.length=n):JT K (j7 (k7 K n F) [] E ta) (aI F fs):=by
 intro H₀ O H σ env Q m d R h q
 obtain⟨ak,e,h⟩:=ao h
 refine ha H₀ O H σ env _ ak R e fun vs H1 s1 h1=>?_
 have R1:=R.keep s1
 rw[oV]
 refine⟨by rw[←cJ h1];exact hl _ _ e,ak.map (·.2),m,d,h1.gf (fun md hm v hv=>hv.weak),h,fun v H2 s2 h2=>?_⟩
 exact q v H2 (s1.trans s2) ((zR R1.od R1.hd h2).hb fun a z=>s1.free z)
end
section
variable {K:PySem.W.Frag}{H H' H₀:Hp}{O O':Addr→Prop}{σ:St}{env:Ev}
noncomputable def eQ:M×D→Option (M×D)
 | (_,.int i)=>some (.fr,.int (-i))
 |_=>none
theorem T4:JU K (rU fun i=>.int (-i)) eQ:=by
 intro H₀ O H x a Q m d _ _ h1 h q
 obtain⟨ma,da⟩:=a
 cases da<;>cases h
 exact⟨_,h1.int,q _ H (aA.refl H) j9⟩
noncomputable def ou:=rC Builtin.bitAnd
noncomputable def oM:=rC Builtin.bitOr
noncomputable def oy:=rC Builtin.bitXor
theorem QW:JR K (dU fun i j=>.int (Builtin.bitAnd i j)) ou:=tm
theorem T5:JR K (dU fun i j=>.int (Builtin.bitOr i j)) oM:=tm
theorem QX:JR K (dU fun i j=>.int (Builtin.bitXor i j)) oy:=tm
def Ik(i j:Int):Prop:=0<j∧j<1606938044258990275541962092341162602522202993782792835301376
noncomputable def bD:=gI (fun _ j=>0<j∧j<1606938044258990275541962092341162602522202993782792835301376) (· / ·)
theorem QY:JR K (rI Ik fun i j=>.int (i/j)) bD:=xB fun _ _ h=>h
theorem log2_lt{n:Nat}(h:n<2^200):n.log2<9000:=by
 rcases Nat.eq_zero_or_pos n with rfl|h0
 ·decide
 ·exact Nat.lt_trans ((Nat.log2_lt (by omega)).mpr h) (by decide)
theorem Pn{X:Cx}:bA X (binaryOp .FloorDiv) (rI Ik fun i j=>.int (i/j)):=yo fun i j _ _ _ _ _ hc q=>by
 have e:i/j=i.fdiv j:=(Int.fdiv_eq_ediv_of_nonneg i (Int.le_of_lt hc.1)).symm
 rw[e]at q
 have h1:=hc.1
 have h2:=hc.2
 have hl:j.natAbs<2^200:=by
  have e2:(2:Nat)^200=1606938044258990275541962092341162602522202993782792835301376:=by decide
  rw[e2];omega
 exact PyProof.Rows.floordiv_int (Int.ne_of_gt hc.1) q (.inl (PyProof.noPylong_of_log2 (log2_lt hl)))
theorem QZ{X:Cx}:bA X (binaryOp .Add) (wN X.K):=by
 intro pins s σ H x y v u Q I rx ry h
 obtain⟨l,b,xs,zs,rfl,rfl,hl,hb,hz,q⟩:=h
 cases (show v=Value.ref l from rx)
 cases (show u=Value.ref b from ry)
 obtain⟨its,r,pl,_⟩:=I.list hl
 obtain⟨tR,r2,pm,_⟩:=I.list hb
 obtain⟨⟨cls,dd,data,sl⟩,ho,hc,n,hd⟩:=pl.isList
 obtain⟨⟨Wt,yq,data2,rj⟩,jK,mh,n2,hd2⟩:=pm.isList
 simp only at hc hd mh hd2
 subst hc hd mh hd2
 have ea:its.toArray++tR.toArray=(its++tR).toArray:=by simp
 have e1:=r.length
 have e2:=r2.length
 refine x4 ⟨_,ho,rfl⟩ ⟨_,jK,rfl⟩ noFill_list_add seq_list_add PySem.F.slot_list_add PySem.F.entry_list_add (PySem.F.args_list_add_2 _ _) (PyProof.Rows.list_addW l b its.toArray tR.toArray n n2 dd yq sl rj (by rw[fY,fY];omega)) ⟨ho,jK,?_⟩
 rw[ea]
 exact⟨.ref _,_,I.Wx (t':=s.toks) (r.append r2) (by rw[b9];omega),rfl,q _ I.fresh⟩
theorem Pq{X:Cx}(h:X.K=K):bA X (binaryOp .Add) (wN K):=by subst h;exact QZ
theorem Pr{r r':R2}{g g':M×D→M×D→Option (M×D)}{ta tb tc:TE}{fa fb fc:Ev→Option (M×D)}(hr:JR K r g)(XJ:JR K r' g')(ha:JT K ta fa)(hb:JT K tb fb)(hc:JT K tc fc):JT K (GN r r' ta tb tc) (G5 g g' fa fb fc):=by
 intro H₀ O H σ env Q m d R h q
 obtain⟨a,ea,h⟩:=ao h
 obtain⟨b,eb,h⟩:=ao h
 obtain⟨z,ez,h⟩:=ao h
 obtain⟨k,ek,h⟩:=ao h
 refine ha H₀ O H σ env _ a.1 a.2 R ea fun x H1 s1 h1=>?_
 refine hb H₀ O H1 σ env _ b.1 b.2 (R.keep s1) eb fun y H2 s2 h2=>?_
 have R2:=(R.keep s1).keep s2
 refine hr H₀ O H2 x y a b _ z.1 z.2 R2.od R2.hd (h1.keep s2).h0 h2.h0 ez fun v H3 s3 h3=>?_
 rw[qc ek]at h3
 refine⟨k,h3.bl,?_⟩
 cases k with
 |false =>
  rw[if_neg aZ]at h ⊢
  cases h
  exact q _ H3 ((s1.trans s2).trans s3) dG
 |true =>
  rw[if_pos rfl]at h ⊢
  obtain⟨c,ec,h⟩:=ao h
  refine hc H₀ O H3 σ env _ c.1 c.2 (R2.keep s3) ec fun w H4 s4 h4=>?_
  have R4:=(R2.keep s3).keep s4
  refine XJ H₀ O H4 y w b c Q m d R4.od R4.hd ((h2.keep s3).keep s4).h0 h4.h0 h fun v H5 s5 h5=>?_
  have s:=((s1.trans s2).trans s3).trans s4
  exact q v H5 (s.trans s5) (h5.hb fun a z=>s.free z)
noncomputable def qH:List D→Option (List V)
 |[]=>some []
 |d::ds=>(cW d).bind fun v=>(qH ds).bind fun r=>some (v::r)
theorem F6{N:Addr→Prop}:∀{ds:List D}{vs ws:List V},aq K N H vs ds→qH ds=some ws→vs=ws∧ws.all jj=true
 |_,_,_,.nil,e=>by cases e;exact⟨rfl,rfl⟩
 |d::ds,v::vs,ws,.cons h r,e=>by
  obtain⟨w,ew,e⟩:=ao e
  obtain⟨r',er,e⟩:=ao e
  cases e
  obtain⟨rfl,f⟩:=F6 r er
  obtain rfl:=qt h ew
  refine⟨rfl,?_⟩
  rw[jE,f,Bool.and_true]
  cases h<;>simp only[cW]at ew<;>first|rfl|cases ew
noncomputable def qI:D→Option (List D)
 |.lst ds=>some ds
 |.tup ds=>some ds
 |_=>none
noncomputable def oN(neg:Bool):M×D→M×D→Option (M×D):=fun a b=>(cW a.2).bind fun x=>(qI b.2).bind fun ds=>(qH ds).bind fun vs=>some (.fr,.bl (if neg then !dW x vs else dW x vs))
theorem seq_val{m:M}{d:D}{ds:List D}{v:V}{Hb:Hp}(e:qI d=some ds)(h:Val K H₀ O Hb H m d v):∃p xs,v=.ref p∧(bw K H p xs∨bf K H p xs)∧aq K (NM H₀ O (aG m)) H xs ds:=by
 cases d<;>simp only[qI]at e<;>cases e
 ·obtain⟨p,xs,rfl,h,r⟩:=h.tup;exact⟨p,xs,rfl,.inr h,r⟩
 ·obtain⟨p,xs,rfl,h,r⟩:=h.lst;exact⟨p,xs,rfl,.inl h,r⟩
theorem Pt{d:D}{x:V}(e:cW d=some x):jj x=true:=by
 cases d<;>simp only[cW]at e<;>cases e<;>rfl
theorem Vv{neg:Bool}:JR K (Ce K neg) (oN neg):=by
 intro H₀ O H x y a b Q m d _ _ h1 h2 h q
 obtain⟨x',ex,h⟩:=ao h
 obtain⟨ds,ed,h⟩:=ao h
 obtain⟨vs,ev,h⟩:=ao h
 cases h
 obtain⟨p,xs,rfl,hs,r⟩:=seq_val ed h2
 obtain⟨rfl,f⟩:=F6 r ev
 obtain rfl:=qt h1.weak ex
 exact⟨p,_,rfl,hs,Pt ex,f,q _ H (aA.refl H) dG⟩
theorem Pu{m:M}(h:dB m=true):hZ m=true:=by cases m<;>first|rfl|cases h
noncomputable def ft:Ev→Option Bool:=fun _=>some true
theorem F7:dX K xx ft:=by
 intro H₀ O H σ env Q b R h q
 cases h
 exact q H (aA.refl H)
noncomputable def mw(e:Ev)(ix:List Nat):Ev:=ix.map fun i=>(e[i]?).getD none
noncomputable def fU(fc:Ev→Option Bool)(fe:Ev→Option (M×D))(m:M)(fr:Ev):List D→Option (List (M×D))
 |[]=>some []
 |d::ds=>(fc (some (m,d)::fr)).bind fun b=>if b=true then (fe (some (m,d)::fr)).bind fun x=>(fU fc fe m fr ds).bind fun r=>some (x::r)else fU fc fe m fr ds
noncomputable def gF(it:Ev→Option (M×List D))(ix:List Nat)(fc:Ev→Option Bool)(fe:Ev→Option (M×D)):Ev→Option (M×D):=fun e=>(it e).bind fun x=>(fU fc fe x.1 (mw e ix) x.2).bind eY
theorem cZ.fr{ix:List Nat}(R:cZ K H₀ O H σ env):Paired (fun(e:Option (M×D)) (x:Option V)=>∀m d,e=some (m,d)→hZ m=true∧∃v,x=some v∧Val K H₀ O HE H m d v) (mw env ix) (eZ σ ix):=by
 unfold mw eZ
 induction ix with
 |nil=>exact .nil
 |cons i ix ih =>
  refine .cons (fun m d e=>?_) ih
  have e':env[i]?=some (some (m,d)):=by
   have e:(env[i]?).getD none=some (m,d):=e
   cases q:env[i]? with
   |none=>rw[q]at e;cases e
   |some z=>rw[q]at e;exact cP some e
  obtain⟨v,hv,n,h⟩:=R.at e'
  exact⟨n,v,by show(σ[i]?).getD none=_;rw[hv];rfl,h⟩
theorem cZ.more{C:Addr}(R:cZ K H₀ O H σ env)(hC:H C=none){H2:Hp}(s:aA H H2)(ys:List V)(e:H2 C=some (.lst ys)):cZ K H₀ (fun a=>O a∨a=C) H2 σ env:=by
 have np:∀a,(∃o,H a=some o)→a≠C:=fun a ⟨o,e⟩=>eD e hC
 have w:∀{N:Addr→Prop}{d:D}{v:V},Rp K N H v d→Rp K (fun a=>N a∧a≠C) H2 v d:=fun r=>(r.wk fun a n e=>⟨n,np a e⟩).keep (.same s)
 have ws:∀{N:Addr→Prop}{d:D}{q:Addr},Cell K N H q d→Cell K (fun a=>N a∧a≠C) H2 q d:=fun {N d q} r=>by
  obtain⟨o,e,_⟩:=r.some
  exact(r.wk fun a n e=>⟨n,np a e⟩).keep (.same s) ((s _ _ e).trans e.symm)
 refine⟨j8 (fun e x h m d q=>?_) R.sl,fun a h=>?_,fun a o h=>?_,fun a o h q=>?_⟩
 ·obtain⟨n,v,rfl,z⟩:=h m d q
  refine⟨n,v,rfl,?_⟩
  cases m
  ·exact(w z).wk fun a h _=>fun z=>z.elim h.1 h.2
  ·exact(w z).wk fun a h _=>⟨fun z=>z.elim h.1.1 h.2,h.1.2⟩
  ·cases n
  ·obtain⟨q,rfl,h1,h2,c'⟩:=z
   exact⟨q,rfl,.inl h1,h2,(ws c').wk fun a h _=>⟨fun z=>z.elim h.1.1 h.2,h.1.2⟩⟩
  ·obtain⟨q,rfl,h1,c'⟩:=z
   exact⟨q,rfl,.inl h1,(ws c').wk fun a h _=>⟨fun z=>z.elim h.1.1 h.2,h.1.2⟩⟩
  ·cases n
  ·obtain⟨q,qs,aJ,e1,e2,h1,h2,h3,h4,h5,h6⟩:=z
   exact⟨q,qs,aJ,e1,e2,.inl h1,h2,s _ _ h3,h4,fun x hx=>⟨.inl (h5 x hx).1,(h5 x hx).2⟩,jf (fun x ds _ ⟨xs,a,r⟩=>⟨xs,s _ _ a,((r.wk fun a n e=>(⟨n,np a e⟩:(¬O a∧H₀ a=none)∧a≠C)).keep (.same s)).wk fun a h _=>⟨fun z=>z.elim h.1.1 h.2,h.1.2⟩⟩) h6⟩
  ·cases n
 ·rcases h with h|rfl
  ·obtain⟨o,q⟩:=R.od a h;exact⟨o,s _ _ q⟩
  ·exact⟨_,e⟩
 ·obtain⟨o',q⟩:=R.hd a o h;exact⟨o',s _ _ q⟩
 ·rcases h with h|rfl
  ·exact(R.keep s).on a o h q
  ·rw[e]at q;cases q;exact fun z=>z
theorem EF{J:It}{m:M}{ds:List D}{tc:TT}{te:TE}{fc:Ev→Option Bool}{fe:Ev→Option (M×D)}{H1:Hp}{ix:List Nat}{pE:List (M×D)}{bb:Bool}{Q:Addr→Hp→Prop}{C:Addr}
  (R:cZ K H₀ O H1 σ env) (hm:dB m=true) (ok:iH K H₀ O J H1 m ds) (hc:dX K tc fc) (he:JT K te fe) (hl:pE.length≤sizeLine) (et:fU fc fe m (mw env ix) ds=some pE)
  (hs:∀x∈pE,(if bb then bM x.1 x.2 else gi x.1 x.2)=true) (hC:H1 C=none)
  (q:∀ys H',aA H1 H'→H' C=some (.lst ys)→aq K (fun a=>¬(O a∨a=C)∧(bb=true→H₀ a=none)) H' ys (pE.map (·.2))→Q C H'):tf J C H1 (eZ σ ix) tc te Q:=by
 have hN:∀{N:Addr→Prop}{Ha Hb:Hp},(∀a,N a→a≠C)→(∀b o,b≠C→Ha b=some o→Hb b=some o)→(∀o,Ha C=some o→¬fP o)→Keeps N Ha Hb:=fun w s nt a o e z=>s a o (by
  rcases z with z|z
  ·exact w a z
  ·rintro rfl;exact nt o e z) e
 refine⟨fun i n H2=>n=ds.length-i∧i≤ds.length∧aA H1 H2∧∃ys acc rest,H2 C=some (.lst ys)∧fU fc fe m (mw env ix) (ds.drop i)=some rest∧pE=acc++rest∧aq K (fun a=>¬(O a∨a=C)∧(bb=true→H₀ a=none)) H2 ys (acc.map (·.2)),⟨_,rfl,oW _,cq hC,[],[],pE,a9,et,rfl,.nil⟩,?_⟩
 rintro i n H2 ⟨rfl,hle,s2,ys,acc,rest,pA,er,qJ,rr⟩
 have eV:aF O H1 O H2:=aF.same s2
 by_cases aT:i<ds.length
 ·refine .inr ⟨ok.go O H2 i eV aT,fun x H3 y=>?_⟩
  have WO:aF O H1 (fun a=>O a∨a=C) H2:=fun a o e n=>⟨s2 a o e,fun z=>z.elim n (eD e hC)⟩
  obtain⟨s3,d,hd,hv⟩:=ok.hX (fun a=>O a∨a=C) H2 i x H3 WO aT y
  have R2:=R.more hC s2 ys pA
  have R3:=R2.keep s3
  have KN:cZ K H₀ (fun a=>O a∨a=C) H3 (some x::eZ σ ix) (some (m,d)::mw env ix) :=
   ⟨.cons (fun m' d' e=>by cases e;exact⟨Pu hm,x,rfl,hv⟩) R3.fr,R3.od,R3.hd,R3.on⟩
  have uU:ds.drop i=d::ds.drop (i+1):=by
   rw[lV aT]
   rw[bO aT]at hd
   cases hd;rfl
  rw[uU]at er
  simp only[fU]at er
  obtain⟨b,eb,er⟩:=ao er
  refine hc H₀ _ H3 _ _ _ b KN eb fun H4 s4=>?_
  cases b with
  |true =>
   rw[if_pos rfl]at er ⊢
   obtain⟨z,ez,er⟩:=ao er
   obtain⟨r',XM,er⟩:=ao er
   cases er
   refine he H₀ _ H4 _ _ _ z.1 z.2 (KN.keep s4) ez fun w H5 s5 h5=>?_
   have yC:aA H2 H5:=(s3.trans s4).trans s5
   have KP:ys.length=acc.length:=by rw[rr.len,aU]
   have XO:acc.length<sizeLine:=by
    have e1:=cP List.length qJ
    rw[b9,cz]at e1
    omega
   refine⟨ys,yC _ _ pA,by rw[KP];exact XO,ds.length-(i+1),by omega,rfl,aT,?_,ys++[w],acc++[z],r',a9,XM,by rw[qJ,List.append_assoc];rfl,?_⟩
   ·intro a o e
    rw[ay (eD e hC)]
    exact yC _ _ (s2 _ _ e)
   ·rw[dh]
    have hz:Rp K (fun a=>¬(O a∨a=C)∧(bb=true→H₀ a=none)) H5 w z.2:=by
     have h:=hs z (by rw[qJ];exact iP _ cL)
     cases bb with
     |true=>exact(h5.bM h).wk fun a h _=>⟨h.1,fun _=>h.2⟩
     |false=>exact(h5.gi h).wk fun a h _=>⟨h,fun z=>nomatch z⟩
    have kp:Keeps (fun a=>¬(O a∨a=C)∧(bb=true→H₀ a=none)) H5 (upd H5 C (.lst (ys++[w]))):=hN (fun a h z=>h.1 (.inr z)) (fun b o ne e=>by rw[ay ne];exact e) (fun o e=>by rw[yC _ _ pA]at e;cases e;exact fun z=>z)
    exact((rr.keep (.same yC)).keep kp).app (.cons (hz.keep kp) .nil)
  |false =>
   rw[if_neg aZ]at er ⊢
   have CG:=s3.trans s4
   exact⟨ds.length-(i+1),by omega,rfl,aT,s2.trans CG,ys,acc,rest,CG _ _ pA,er,qJ,rr.keep (.same CG)⟩
 ·have hi:i=ds.length:=by omega
  subst hi
  rw[BZ]at er
  cases er
  rw[oV]at qJ
  subst qJ
  exact .inl ⟨ok.stop O H2 eV,q ys H2 s2 pA rr⟩
theorem vR{wi:TI}{ix:List Nat}{tc:TT}{te:TE}{it:Ev→Option (M×List D)}{fc:Ev→Option Bool}{fe:Ev→Option (M×D)}(hi:JI K wi it)(hc:dX K tc fc)(he:JT K te fe):JT K (qq wi ix tc te) (gF it ix fc fe):=by
 intro H₀ O H σ env Q m d R e q
 obtain⟨⟨mi,ds⟩,ei,e⟩:=ao e
 obtain⟨pE,et,e⟩:=ao e
 refine hi H₀ O H σ env _ mi ds R ei fun J H1 s1 hm ok C hC=>?_
 have R1:=R.keep s1
 unfold eY at e
 split at e
 ·rename_i hl
  split at e
  ·rename_i ha
   cases e
   rw[jF]at ha
   refine EF (bb:=true) R1 hm ok hc he hl et (fun x hx=>ha x hx) hC fun ys H' s' hy r=>?_
   refine q _ H' (s1.trans s') ⟨C,rfl,s1.free hC,lC R1.hd hC,ig R1.od hC,ys,hy,r.wk fun a h _=>⟨⟨fun z=>h.1 (.inl z),h.2 rfl⟩,fun z=>h.1 (.inr z)⟩⟩
  ·split at e
   ·rename_i ha
    cases e
    rw[jF]at ha
    refine EF (bb:=false) R1 hm ok hc he hl et (fun x hx=>ha x hx) hC fun ys H' s' hy r=>?_
    exact q _ H' (s1.trans s') (Rp.lst (.inl hy) (ig R1.od hC) (r.wk fun a h _=>fun z=>h.1 (.inl z)))
   ·cases e
 ·cases e
theorem Q0:∀e ak,ah e=some ak→ak.length=0:=fun e ak h=>by cases h;rfl
theorem Pw{n:Nat}{f:Ev→Option (M×D)}{g:Ev→Option (List (M×D))}(h:∀e ak,g e=some ak→ak.length=n):∀e ak,ag f g e=some ak→ak.length=n+1:=fun e ak q=>by
 obtain⟨x,ex,q⟩:=ao q
 obtain⟨r,er,q⟩:=ao q
 cases q
 rw[cz,h e r er]
end
section
variable {K:PySem.W.Frag}{H H' H₀:Hp}{O O':Addr→Prop}{σ:L2.St}{env:Ev}
theorem Be{X:Cx}{f:Value→Value→Sem Value}{r r':R2}(h:bA X f r)(h':bA X f r'):bA X f (fun x y H Q=>r x y H Q∨r' x y H Q) :=
 fun pins s σ H x y v u Q I rx ry q=>q.elim (h pins s σ H x y v u Q I rx ry) (h' pins s σ H x y v u Q I rx ry)
noncomputable def pF(g g':M×D→M×D→Option (M×D)):M×D→M×D→Option (M×D):=fun a b=>match g a b with
 |some z=>some z
 |none=>g' a b
theorem AA{r r':R2}{g g':M×D→M×D→Option (M×D)}(h:JR K r g)(h':JR K r' g'):JR K (fun x y H Q=>r x y H Q∨r' x y H Q) (pF g g'):=by
 intro H₀ O H x y a b Q m d od hd h1 h2 e q
 unfold pF at e
 split at e
 ·rename_i z ez;cases e;exact .inl (h H₀ O H x y a b Q m d od hd h1 h2 ez q)
 ·exact .inr (h' H₀ O H x y a b Q m d od hd h1 h2 e q)
noncomputable def qv:M×D→M×D→Option (M×D)
 | (_,.str x),(_,.str y)=>if x.length+y.length≤sizeLine then some (.fr,.str (x++y))else none
 |_,_=>none
theorem Q5:JR K (fun x y H Q=>∃i j,x=.str i∧y=.str j∧i.length+j.length≤sizeLine∧Q (.str (i++j)) H) qv:=by
 intro H₀ O H x y a b Q m d _ _ h1 h2 h q
 obtain⟨ma,da⟩:=a;obtain⟨mb,db⟩:=b
 cases da<;>try (cases h;done)
 cases db<;>try (cases h;done)
 simp only[qv]at h
 split at h
 ·rename_i hl;cases h
  exact⟨_,_,h1.str,h2.str,hl,q _ H (aA.refl H) wM⟩
 ·cases h
noncomputable def wQ(K:PySem.W.Frag):R2:=fun x y H Q=>∃a b xs ys,x=.ref a∧y=.ref b∧bf K H a xs∧bf K H b ys∧xs.length+ys.length≤sizeLine∧∀p H',aA H H'→bf K H' p (xs++ys)→Q (.ref p) H'
theorem Q6{X:Cx}:bA X (binaryOp .Add) (wQ X.K):=by
 intro pins s σ H x y v u Q I rx ry h
 obtain⟨a,b,xs,ys,rfl,rfl,ha,hb,hz,q⟩:=h
 by_cases e:xs=[]
 ·subst e
  cases rx;cases ry
  obtain⟨its,r1,p1,_⟩:=I.tuple ha;obtain⟨tR,r2,p2,_⟩:=I.tuple hb
  cases r1
  exact O7 p1 p2 ⟨.ref b,H,I,rfl,q b H (aA.refl H) hb⟩
 ·refine Qt pins s σ H (.ref a) (.ref b) v u Q I rx ry ⟨a,b,xs,ys,rfl,rfl,ha,hb,e,hz,fun e2=>?_,fun _ p hp=>q p _ (cq hp) (bf.of a9)⟩
  subst e2
  exact q a H (aA.refl H) (by rw[oV];exact ha)
theorem Px{X:Cx}(h:X.K=K):bA X (binaryOp .Add) (wQ K):=by subst h;exact Q6
noncomputable def qw:M×D→M×D→Option (M×D)
 | (m,.tup ds),(n,.tup es)=>if aG m=.rb∨aG n=.rb then none else if ds.length+es.length≤sizeLine then some (aG (mJ m n),.tup (ds++es))else none
 |_,_=>none
theorem Q7:JR K (wQ K) qw:=by
 intro H₀ O H x y a b Q m d od hd h1 h2 h q
 obtain⟨ma,da⟩:=a;obtain⟨mb,db⟩:=b
 cases da<;>try (cases db<;>cases h;done)
 cases db<;>try (cases h;done)
 simp only[qw]at h
 split at h
 ·cases h
 ·rename_i hn
  split at h
  ·rename_i hl
   cases h
   obtain⟨p,xs,rfl,r,s⟩:=h1.tup
   obtain⟨p',Cz,rfl,r',s'⟩:=h2.tup
   have n1:aG ma≠.rb:=fun z=>hn (.inl z)
   have n2:aG mb≠.rb:=fun z=>hn (.inr z)
   refine⟨p,p',xs,Cz,rfl,rfl,r,r',by rw[s.len,s'.len];exact hl,fun l H' sm hq=>q _ _ sm (Val.el (Rp.tup hq ?_))⟩
   exact(aq.app (s.wk fun _ h _=>NM.KG n1 n2 h) (s'.wk fun _ h _=>NM.KH n1 n2 h)).keep (.same sm)
  ·cases h
def Bf(K:PySem.W.Frag):V→Option Int→Option Int→Hp→VK→Prop:=fun x lo hi H Q=>∃a xs,x=.ref a∧bf K H a xs∧∀p H',aA H H'→bf K H' p (iG xs lo hi)→Q (.ref p) H'
theorem Q8{X:Cx}:kU X (Bf X.K):=by
 intro pins s σ H x v vl vu lo hi sl Q I rx hs pl pu h
 obtain⟨a,xs,rfl,hx,q⟩:=h
 by_cases e:HT.aS xs.length 0 lo=0∧HT.aS xs.length xs.length hi=xs.length
 ·cases rx
  obtain⟨its,r,ht,hz⟩:=I.tuple hx
  have hlen:its.toArray.size=xs.length:=by rw[fY];exact r.length.symm
  refine⟨"tuple",_,qS.lookup,ht.typeIs,Mq ht hs pl pu (by rw[hlen];exact e.1) (by rw[hlen];exact e.2) ⟨.ref a,H,I,rfl,q a H (aA.refl H) ?_⟩⟩
  have ec:iG xs lo hi=xs:=by unfold iG;rw[e.1,e.2,List.drop_zero,Nat.sub_zero];exact List.take_of_length_le (aR _)
  rw[ec];exact hx
 ·exact S6 pins s σ H (.ref a) v vl vu lo hi sl Q I rx hs pl pu ⟨a,xs,rfl,hx,e,fun p hp=>q p _ (cq hp) (bf.of a9)⟩
noncomputable def Jz:M×D→Option Int→Option Int→Option (M×D)
 | (m,.tup ds),lo,hi=>some (aG m,.tup (cut ds lo hi))
 |_,_,_=>none
theorem Q9:mv K (Bf K) Jz:=by
 intro H₀ O H x lo hi a Q m d od hd h1 h q
 obtain⟨ma,da⟩:=a
 cases da<;>try (cases h;done)
 cases h
 obtain⟨p,xs,rfl,r,s⟩:=h1.tup
 exact⟨p,xs,rfl,r,fun l H' sm hq=>q _ _ sm (Val.el (Rp.tup hq (s.cut.keep (.same sm))))⟩
noncomputable def Bg:M×D→Option Int→Option Int→Option (M×D)
 | (_,.str z),lo,hi=>if z.length≤sizeLine then some (.fr,.str (Txt.slice z lo hi))else none
 |_,_,_=>none
theorem Ra:mv K (fun x lo hi H Q=>∃z:Str,x=.str z∧z.length≤sizeLine∧Q (.str (Txt.slice z lo hi)) H) Bg:=by
 intro H₀ O H x lo hi a Q m d od hd h1 h q
 obtain⟨ma,da⟩:=a
 cases da<;>try (cases h;done)
 simp only[Bg]at h
 split at h
 ·rename_i hl;cases h;exact⟨_,h1.str,hl,q _ H (aA.refl H) wM⟩
 ·cases h
noncomputable def qK(g g':M×D→Option Int→Option Int→Option (M×D)):M×D→Option Int→Option Int→Option (M×D):=fun a l h=>match g a l h with
 |some z=>some z
 |none=>g' a l h
theorem G7{r r':V→Option Int→Option Int→Hp→VK→Prop}{g g':M×D→Option Int→Option Int→Option (M×D)}(h:mv K r g)(h':mv K r' g'):mv K (fun x l u H Q=>r x l u H Q∨r' x l u H Q) (qK g g'):=by
 intro H₀ O H x lo hi a Q m d od hd h1 e q
 unfold qK at e
 split at e
 ·rename_i z ez;cases e;exact .inl (h H₀ O H x lo hi a Q m d od hd h1 ez q)
 ·exact .inr (h' H₀ O H x lo hi a Q m d od hd h1 e q)
theorem G8{X:Cx}{r r':V→Option Int→Option Int→Hp→VK→Prop}(h:kU X r)(h':kU X r'):kU X (fun x l u H Q=>r x l u H Q∨r' x l u H Q) :=
 fun pins s σ H x v vl vu lo hi sl Q I rx hs pl pu q=>q.elim (h pins s σ H x v vl vu lo hi sl Q I rx hs pl pu) (h' pins s σ H x v vl vu lo hi sl Q I rx hs pl pu)
noncomputable abbrev AY(K:PySem.W.Frag):R2:=fun x y H Q=>dU (fun i j=>.int (i+j)) x y H Q∨(fun x y H Q=>(fun x y H Q=>∃i j,x=.str i∧y=.str j∧i.length+j.length≤sizeLine∧Q (.str (i++j)) H) x y H Q∨(fun x y H Q=>wN K x y H Q∨wQ K x y H Q) x y H Q) x y H Q
noncomputable def aW:=pF Jx (pF qv (pF qG qw))
theorem Rb{X:Cx}(h:X.K=K):bA X (binaryOp .Add) (AY K):=Be SN (Be MT (Be (Pq h) (Px h)))
theorem Rc:JR K (AY K) aW:=AA Ts (AA Q5 (AA TL Q7))
abbrev KQ(K:PySem.W.Frag):V→Option Int→Option Int→Hp→VK→Prop:=fun x l u H Q=>A0 K x l u H Q∨(fun x l u H Q=>Bf K x l u H Q∨(fun x lo hi H Q=>∃z:Str,x=.str z∧z.length≤sizeLine∧Q (.str (Txt.slice z lo hi)) H) x l u H Q) x l u H Q
noncomputable def eW:=qK oK (qK Jz Bg)
theorem WQ{X:Cx}(h:X.K=K):kU X (KQ K):=by subst h;exact G8 Qv (G8 Q8 Tp)
theorem Vw:mv K (KQ K) eW:=G7 Pg (G7 Q9 Ra)
def CH(K:PySem.W.Frag)(T:String)(r:V→List V→Hp→VK→Prop)(g:M×D→List (M×D)→Option (M×D)):Prop :=
 ∀H₀ O H x vs a ak Q m d,(∀a,O a→∃o,H a=some o)→(∀a o,H₀ a=some o→∃o',H a=some o')→Val K H₀ O HE H (Prod.fst a) a.2 x→fh K H₀ O HE H ak vs→g a ak=some (m,d)→(∀v H',aA H H'→Val K H₀ O H H' m d v→Q v H')→r x vs H Q
noncomputable def yD(ty:D→Bool)(g:M×D→List (M×D)→Option (M×D))(f:Ev→Option (M×D))(fs:Ev→Option (List (M×D))):Ev→Option (M×D):=fun e=>(f e).bind fun x=>if ty x.2=true then (fs e).bind fun l=>g x l else none
noncomputable def uV:D→Bool
 |.str _=>true
 |_=>false
theorem T6 {r:V→List V→Hp→VK→Prop}{g:M×D→List (M×D)→Option (M×D)}{te:TE}{ta:TA}{f:Ev→Option (M×D)}{fs:Ev→Option (List (M×D))} (hr:CH K "str" r g) (he:JT K te f) (ha:gQ K ta fs):JT K (pw K "str" r te ta) (yD uV g f fs):=by
 intro H₀ O H σ env Q m d R h q
 obtain⟨⟨mx,dx⟩,ex,h⟩:=ao h
 split at h
 ·rename_i hs
  obtain⟨l,el,h⟩:=ao h
  refine he H₀ O H σ env _ mx dx R ex fun v H1 s1 h1=>?_
  cases dx<;>simp only[uV]at hs<;>try (cases hs;done)
  obtain rfl:=h1.str
  refine⟨rfl,ha H₀ O H1 σ env _ l (R.keep s1) el fun vs H2 s2 h2=>?_⟩
  have R2:=(R.keep s1).keep s2
  exact hr H₀ O H2 _ vs (mx,.str _) l Q m d R2.od R2.hd (h1.keep s2).h0 (j8 (fun _ _ z=>z.h0) h2) h fun v H3 s3 h3=>q v H3 ((s1.trans s2).trans s3) (h3.hb fun a z=>(s1.trans s2).free z)
 ·cases h
noncomputable def iU:D→String
 |.non => "NoneType"
 |.bl _ => "bool"
 |.int _ => "int"
 |.str _ => "str"
 |.ty _ => "type"
 |.tup _ => "tuple"
 |.lst _ => "list"
 |.dk _ => "dict"
 |.dt _ => "dict"
noncomputable def eR:List (M×D)→Option (M×D)
 |[(_,d),(_,.ty T)]=>if iU d = "type" then none else if ["bool", "int", "str", "tuple", "list", "dict"].contains T=true then some (.fr,.bl (iU d==T||(iU d == "bool" && T == "int")))else none
 |_=>none
end
inductive TyJ (K:PySem.W.Frag)(H:Hp):V→String→Prop where
 |non:TyJ K H .non "NoneType"
 |bl (x:Bool):TyJ K H (.bl x) "bool"
 |int (i:Int):TyJ K H (.int i) "int"
 |str (x:Str):TyJ K H (.str x) "str"
 |lst {a:Addr}{xs:List V} (e:bw K H a xs):TyJ K H (.ref a) "list"
 |tup {a:Addr}{xs:List V} (e:bf K H a xs):TyJ K H (.ref a) "tuple"
 |dK {a:Addr}{kvs:List (Key×V)} (e:Rd H a (.dK kvs)):TyJ K H (.ref a) "dict"
 |dT {a:Addr}{kvs:List (List Key×V)} (e:Rd H a (.dT kvs)):TyJ K H (.ref a) "dict"
noncomputable def uW(t T:String):Bool:=t==T||(t == "bool" && T == "int")
theorem T7 (K:PySem.W.Frag) {t T:String} (h1:["NoneType", "bool", "int", "str", "tuple", "list", "dict"].contains t=true) (h2:["bool", "int", "str", "tuple", "list", "dict"].contains T=true):PySem.W.kitOne K (.type t) (.type T)=some (uW t T):=by
 simp only[List.contains_cons,List.contains_nil,Bool.or_false,Bool.or_eq_true,beq_iff_eq]at h1 h2
 rcases h1 with rfl|rfl|rfl|rfl|rfl|rfl|rfl<;>rcases h2 with rfl|rfl|rfl|rfl|rfl|rfl<;>rfl
section
variable {K:PySem.W.Frag}{H H' H₀:Hp}{O O':Addr→Prop}{σ:L2.St}{env:Ev}
theorem T8{x:V}{t:String}(h:TyJ K H x t):["NoneType", "bool", "int", "str", "tuple", "list", "dict"].contains t=true:=by cases h<;>decide
theorem NV{X:Cx}(hK:X.K=K):gp X (.builtin "isinstance") (fun xs H Q=>∃x T t,xs=[x,.ty T]∧TyJ K H x t∧["bool", "int", "str", "tuple", "list", "dict"].contains T=true∧Q (.bl (uW t T)) H):=by
 subst hK
 intro pins s σ H xs us Q I r h
 obtain⟨x,T,t,rfl,ty,hT,q⟩:=h
 obtain⟨u,u',rfl,rx,ry⟩:=vals2 r
 cases (show u'=Value.type T from ry)
 have e:=T7 X.K (T8 ty) hT
 have fin:∀tk,EP X pins σ Q (.bool (uW t T)) { s with toks:=tk }:=fun tk=>⟨.bl (uW t T),H,I.tok tk,rfl,q⟩
 cases ty with
 |non=>cases (show u=Value.none from rx);exact lW PySem.W.kitx_none I.gy True.intro e (fun z=>nomatch z) fin
 |bl y=>cases (show u=Value.bool y from rx);exact lW PySem.W.kitx_bool I.gy True.intro e (fun z=>nomatch z) fin
 |int i=>obtain⟨t,q⟩:=(show ∃t,u=Value.int i t from rx);cases q;exact lW PySem.W.kitx_int I.gy True.intro e (fun z=>nomatch z) fin
 |str y=>obtain⟨t,q⟩:=(show ∃t,u=Value.str y t from rx);cases q;exact lW PySem.W.kitx_str I.gy True.intro e (fun z=>nomatch z) fin
 |@lst a xs ea =>
  cases (show u=Value.ref a from rx)
  obtain⟨its,_,⟨o,n,h1,h2,_⟩,_⟩:=I.list ea
  exact lW PySem.W.kitx_list I.gy ⟨o,h1,h2⟩ e (fun z=>nomatch z) fin
 |@tup a xs ea =>
  cases (show u=Value.ref a from rx)
  obtain⟨its,_,p,_⟩:=I.tuple ea
  obtain⟨o,h1,h2,_⟩:=p
  exact lW PySem.W.kitx_tuple I.gy ⟨o,h1,h2⟩ e (fun z=>nomatch z) fin
 |@dK a kvs ea =>
  cases (show u=Value.ref a from rx)
  obtain⟨_,_,vs,_,p⟩:=ea.ok I.az
  obtain⟨o,es,ep,h1,h2,_⟩:=p
  exact lW PySem.W.kitx_dict I.gy ⟨o,h1,h2.1⟩ e (fun z=>nomatch z) fin
 |@dT a kvs ea =>
  cases (show u=Value.ref a from rx)
  obtain⟨_,_,vs,_,o,es,ep,h1,h2,_⟩:=ea.ok I.az
  exact lW PySem.W.kitx_dict I.gy ⟨o,h1,h2.1⟩ e (fun z=>nomatch z) fin
theorem T9 {N:Addr→Prop}{v:V}{d:D} (h:Rp K N H v d) (n:iU d ≠ "type"):TyJ K H v (iU d):=by
 cases h with
 |non=>exact .non
 |bl b=>exact .bl b
 |int i=>exact .int i
 |str x=>exact .str x
 |ty x=>exact absurd rfl n
 |tup h _=>exact .tup h
 |lst h _ _=>exact .lst (.inl h)
 |lstK h _=>exact .lst (.inr h)
 |dk h _ _ _=>exact .dK h
 |dt h _ _ _=>exact .dT h
theorem Rf:jO K (fun xs H Q=>∃x T t,xs=[x,.ty T]∧TyJ K H x t∧["bool", "int", "str", "tuple", "list", "dict"].contains T=true∧Q (.bl (uW t T)) H) eR:=by
 intro H₀ O H vs ak Q m d _ _ hv h q
 unfold eR at h
 split at h
 ·split at h
  ·cases h
  ·rename_i hn
   split at h
   ·rename_i hT
    cases h
    obtain⟨v,w,rfl,hx,hw⟩:=hv.two
    obtain rfl:=hw.ty
    exact⟨v,_,_,rfl,T9 hx.weak hn,hT,q _ H (aA.refl H) dG⟩
   ·cases h
 ·cases h
end
section
variable {K:PySem.W.Frag}{H:Hp}
theorem zS{N:Addr→Prop}:∀(ns:List Int),aq K N H (ns.map V.int) (ns.map D.int)
 |[]=>.nil
 |n::ns=>.cons (.int n) (zS ns)
theorem Ua{F:List D→Option (M×D)}{a:Addr}{ns:List Int}{E:XK}(h:bw K H a (ns.map V.int))(e:∃m,F [.lst (ns.map .int)]=some (m,.bl true)):k7 K 1 F [.ref a] H (fun v _=>v=.bl true) E:=by
 obtain⟨m,e⟩:=e
 refine⟨rfl,_,m,_,.cons ?_ .nil,e,fun v H' _ r=>?_⟩
 ·rcases h with h|h
  ·exact .lst h trivial (zS ns)
  ·exact .lstK h (zS ns)
 ·cases m<;>try exact r.elim
  ·exact Rp.Ac r
  ·obtain⟨p,_,_,c⟩:=r;exact c.elim
  ·obtain⟨_,_,_,_,e,_⟩:=r;cases e
end
section
variable {m n:M}{i j:Int}{x y:Str}{b c:Bool}{ds es:List D}{d:D}
theorem Il:aQ (m,.int i) (n,.int j)=some (.fr,.bl (decide (i=j))):=by simp[aQ,cW,ko]
theorem dQ:aQ (m,.str x) (n,.str y)=some (.fr,.bl (decide (x=y))):=by simp[aQ,cW,ko]
theorem Im:aQ (m,.bl b) (n,.bl c)=some (.fr,.bl (decide (b=c))):=by simp[aQ,cW,ko]
theorem lI:bV (m,.int i) (n,.int j)=some (.fr,.bl (!decide (i=j))):=by simp[bV,cW,ko]
theorem wR:bV (m,.str x) (n,.str y)=some (.fr,.bl (!decide (x=y))):=by simp[bV,cW,ko]
theorem Ad:aW (m,.int i) (n,.int j)=some (.fr,.int (i+j)):=rfl
theorem Ub(h:x.length+y.length≤sizeLine):aW (m,.str x) (n,.str y)=some (.fr,.str (x++y)):=by
 show(match (none:Option (M×D)) with|some z=>some z|none=>pF qv (pF qG qw) (m,.str x) (n,.str y))=_
 show(match qv (m,.str x) (n,.str y) with|some z=>some z|none=>_)=_
 simp only[qv,if_pos h]
theorem qf(hm:aG m≠.rb)(hn:aG n≠.rb)(h:ds.length+es.length≤sizeLine):aW (m,.lst ds) (n,.lst es)=dO (mJ m n) (ds++es):=by
 show(match qG (m,.lst ds) (n,.lst es) with|some z=>some z|none=>none)=_
 simp only[qG,hm,hn,or_self,if_false,h,if_true]
 cases dO (mJ m n) (ds++es)<;>rfl
theorem G9(hm:aG m≠.rb)(hn:aG n≠.rb)(h:ds.length+es.length≤sizeLine):aW (m,.tup ds) (n,.tup es)=some (aG (mJ m n),.tup (ds++es)):=by
 show(match (none:Option (M×D)) with|some z=>some z|none=>qw (m,.tup ds) (n,.tup es))=_
 simp only[qw,hm,hn,or_self,if_false,h,if_true]
theorem Ae:fj (m,.int i) (n,.int j)=some (.fr,.int (i-j)):=rfl
theorem mul_r(h:-18446744073709551616<j∧j<18446744073709551616):c6 (m,.int i) (n,.int j)=some (.fr,.int (i*j)):=by show(if _ then _ else _)=_;rw[if_pos (.inr h)]
theorem wU(h:-18446744073709551616<i∧i<18446744073709551616):c6 (m,.int i) (n,.int j)=some (.fr,.int (i*j)):=by show(if _ then _ else _)=_;rw[if_pos (.inl h)]
theorem fE(h:0<j):aY (m,.int i) (n,.int j)=some (.fr,.int (i%j)):=by show(if _ then _ else _)=_;rw[if_pos h]
theorem div_ii(h:0<j∧j<1606938044258990275541962092341162602522202993782792835301376):bD (m,.int i) (n,.int j)=some (.fr,.int (i/j)):=by show(if _ then _ else _)=_;rw[if_pos h]
theorem Uc(h:0≤j∧j≤1000000∧i.natAbs<2^64):oI (m,.int i) (n,.int j)=some (.fr,.int (i^j.toNat)):=by show(if _ then _ else _)=_;rw[if_pos h]
theorem Ud(h:0≤j∧j≤1000000∧i.natAbs<2^64):WN (m,.int i) (n,.int j)=some (.fr,.int (i*2^j.toNat)):=by show(if _ then _ else _)=_;rw[if_pos h]
theorem Io:oI (m,.int 2) (n,.int 64)=some (.fr,.int 18446744073709551616):=by
 rw[Uc (by decide)]
 have:(2:Int)^(64:Int).toNat=18446744073709551616:=by decide
 rw[this]
theorem Ip:dY (m,.int i) (n,.int j)=some (.fr,.bl (decide (i<j))):=rfl
theorem Iq:XE (m,.int i) (n,.int j)=some (.fr,.bl (decide (i≤j))):=rfl
theorem tF:dN (m,.int i) (n,.int j)=some (.fr,.bl (decide (j<i))):=rfl
theorem Ir:XF (m,.int i) (n,.int j)=some (.fr,.bl (decide (j≤i))):=rfl
theorem Rg:ou (m,.int i) (n,.int j)=some (.fr,.int (Builtin.bitAnd i j)):=rfl
theorem Ue:oM (m,.int i) (n,.int j)=some (.fr,.int (Builtin.bitOr i j)):=rfl
theorem Rh:oy (m,.int i) (n,.int j)=some (.fr,.int (Builtin.bitXor i j)):=rfl
theorem wV:eQ (m,.int i)=some (.fr,.int (-i)):=rfl
theorem iy:aj (m,.lst ds) (n,.int i)=(aX ds i).map fun d=>(aG m,d):=rfl
theorem kf:aj (m,.tup ds) (n,.int i)=(aX ds i).map fun d=>(aG m,d):=rfl
theorem Iu(h:x.length≤sizeLine):aj (m,.str x) (n,.int i)=(aX x.cps.toList i).map fun c=>(.fr,.str ⟨#[c]⟩):=by simp[aj,h]
theorem AF:bI [(m,.lst ds)]=some (.fr,.int ds.length):=rfl
theorem Iw:bI [(m,.tup ds)]=some (.fr,.int ds.length):=rfl
theorem Iy:tW [(m,.int i)]=some (.fr,.int (if i<0 then -i else i)):=rfl
theorem Iz:c7 [(m,.int i)]=some (.fr,.int i):=rfl
theorem wW:c7 [(m,.bl b)]=some (.fr,.int (if b then 1 else 0)):=rfl
theorem bR:fQ (m,.bl b)=some b:=rfl
theorem qg:oJ (m,.int i)=some i:=rfl
theorem zT:lE (.fr,d)=some (.fr,d):=rfl
theorem vS:lE (.al,d)=some (.al,d):=rfl
theorem oi:lE (.un,d)=some (.bo,d):=rfl
theorem Af{e:Ev}:out (.rt e .fr d)=some (.fr,d):=rfl
theorem Hc{e:Ev}:out (.rt e .un d)=some (.un,d):=rfl
theorem Hd{e:Ev}:out (.rt e .bo d)=some (.un,d):=rfl
theorem He{e:Ev}:out (.nx e)=some (.fr,.non):=rfl
theorem Hf{e:Ev}(h:d.bx=true):out (.rt e .al d)=some (.fr,d):=by simp[out,h]
theorem wg:bM .fr d=true:=rfl
theorem Hg:bM .un d=true:=rfl
theorem Hh:bM .al d=d.bx:=rfl
theorem fW:D.bx (.int i)=true:=by simp only[D.bx]
theorem xE:D.bx (.str x)=true:=by simp only[D.bx]
theorem JA:D.bx (.bl b)=true:=by simp only[D.bx]
theorem JB:D.bx .non=true:=by simp only[D.bx]
theorem dq:aG .al=.al:=rfl
theorem wj:aG .fr=.fr:=rfl
theorem Hi:aG .un=.fr:=rfl
theorem wm:aG .bo=.fr:=rfl
theorem Hj(h:D.bH ds=true):dO .al ds=some (.un,.lst ds):=by simp[dO,aG,h]
theorem Ag:dO .fr ds=some (.un,.lst ds):=by simp[dO,aG]
theorem aN{f g:Ev→Option Fl}{e e':Ev}(h:f e=some (.nx e')):aw f g e=g e':=by simp[aw,h]
theorem qh{f g:Ev→Option Fl}{e e':Ev}(h:f e=some (.rt e' m d)):aw f g e=some (.rt e' m d):=by simp[aw,h]
theorem dC{c:Ev→Option Bool}{f g:Ev→Option Fl}{e:Ev}(h:c e=some true):aL c f g e=f e:=by simp[aL,h]
theorem bj{c:Ev→Option Bool}{f g:Ev→Option Fl}{e:Ev}(h:c e=some false):aL c f g e=g e:=by simp[aL,h]
theorem gW:∀ns:List Int,D.bH (ns.map .int)=true
 |[]=>by simp only[List.map_nil,D.bH]
 |n::ns=>by simp only[List.map_cons,D.bH,D.bx,gW ns,Bool.and_self]
theorem gY{α:Type}{l:List α}{k:Nat}(h:k<l.length):L2.aX l (k:Int)=some l[k]:=by
 unfold L2.aX L2.dF
 rw[if_pos (Int.natCast_nonneg k),if_pos (by omega)]
 simp[h]
theorem i6{α:Type}{l:List α}{k:Int}(h0:0≤k)(h1:k<l.length):L2.aX l k=some (l[k.toNat]'(by omega)):=by
 unfold L2.aX L2.dF
 rw[if_pos h0,if_pos h1]
 have:k.toNat<l.length:=by omega
 simp[this]
theorem zF{ns:List Int}{k:Int}(h0:0≤k)(h1:k<ns.length):∃c,L2.aX (ns.map D.int) k=some (.int c):=by
 rw[i6 h0 (by simpa using h1)]
 exact⟨ns[k.toNat]'(by omega),by simp⟩
end
theorem og{g:M×D→Ev→Option Ev}{b:Ev→Option Fl}{m:M}:∀{ds:List D}{e:Ev} (Iv:Nat→Ev→Prop),Iv 0 e →
  (∀(k:Nat) d e,ds[k]?=some d→Iv k e→∃e1 e2,g (m,d) e=some e1∧b e1=some (.nx e2)∧Iv (k+1) e2)→∃e',forL g b m ds e=some (.nx e')∧Iv ds.length e'
 |[],e,Iv,h0,_=>⟨e,rfl,h0⟩
 |d::ds,e,Iv,h0,hs=>by
  obtain⟨e1,e2,h1,h2,h3⟩:=hs 0 d e rfl h0
  obtain⟨e',h4,h5⟩:=og (ds:=ds) (e:=e2) (fun k e=>Iv (k+1) e) h3 fun k d e hd hi=>hs (k+1) d e (by simpa using hd) hi
  refine⟨e',?_,h5⟩
  simp only[forL,h1,h2,Option.bind_some]
  exact h4
theorem Ah{lo:Int}{n k:Nat}{d:D}(h:(fM lo n)[k]?=some d):k<n∧d=.int (lo+k):=by
 unfold fM at h
 rw[cE]at h
 have hk:k<n:=by
  rcases hJ k n with z|z
  ·exact z
  ·rw[jG (by simpa using z)]at h;cases h
 rw[List.getElem?_range hk]at h
 cases h
 exact⟨hk,rfl⟩
theorem zU{lo:Int}{n:Nat}:(fM lo n).length=n:=by simp[fM]
theorem rE{n:Nat}(h:n≤1000):(n≤sizeLine)=True:=eq_true (bQ h (by decide))
theorem JC{n:Nat}(h:n≤1000):(n<sizeLine)=True:=eq_true (dJ h (by decide))
theorem AG:mJ .bo .un=.fr:=rfl
theorem Vx:mJ .un .un=.fr:=rfl
theorem Vy:mJ .al .un=.al:=rfl
end J
namespace J
open PySem PySem.Spec PyProof.Rows L2
section
variable {X:Cx}{pins:List (Addr×Obj)}{σ:L2.St}{H:Hp}{s:Shared}{h':Heap}
theorem Ei{fp:List Addr}{t':Nat}(I:L2.Inv X pins σ H s)(k:∀b o,b∉fp→s.heap.get? b=some o→h'.get? b=some o)(hf:∀b∈fp,iE X pins H b):L2.Inv X pins σ H { s with heap:=h',toks:=t' }:=by
 have lY:∀b u,H b=some u→b∉fp:=fun b u e z=>by rw[(hf b z).1]at e;cases e
 refine I.step (g':=s.gens) (d':=s.drawn) (ch:=fp) (fun b hb=>?_) (fun b o _ _ hc e _=>k b o hc e) (fun b o _ _ hc e _=>⟨o.slots,k b o hc e⟩) (fun _ _ _ _ n=>n)
  (fun b o hc e=>⟨o,k b o hc e⟩) (fun _ _ e=>e) (fun _ _ _ e=>e) (fun b ps e=>⟨#[],by rw[e];simp⟩) (fun m hm=>?_) (fun b u e=>?_) I.bare
 ·obtain⟨f0,f1,f2,f3,f4,f5⟩:=hf b hb
  exact⟨f3,f1,f4,f5⟩
 ·obtain⟨o,es,ep,ho,r⟩:=hm
  exact⟨o,es,ep,k _ o (fun z=>(hf _ z).2.1 rfl) ho,r⟩
 ·refine(I.az b u e).lM (fun c v hc q=>k c v ?_ q) (fun _ q=>q) fun _ _ q=>q
  rcases hc with z|z
  ·rw[z];exact lY b u e
  ·exact lY c _ z
theorem D1{fp:List Addr}{t':Nat}{o:HO}(I:L2.Inv X pins σ H s)(k:∀b o,b∉fp→s.heap.get? b=some o→h'.get? b=some o)(hf:∀b∈fp,iE X pins H b)(new:bT X.prog X.w (upd H s.heap.objs.size o) h' s.heap.objs.size o) :
  L2.Inv X pins σ (upd H s.heap.objs.size o) { s with heap:=h',toks:=t' }:=by
 have lY:∀b u,H b=some u→b∉fp:=fun b u e z=>by rw[(hf b z).1]at e;cases e
 have hT:H s.heap.objs.size=none:=I.az.fresh (aR _)
 have neT:∀b u,H b=some u→b≠s.heap.objs.size:=fun b u e=>eD e hT
 have XQ:∀b o,s.heap.get? b=some o→b≠s.heap.objs.size:=fun b o e=>cK (bz e)
 refine I.step (g':=s.gens) (d':=s.drawn) (ch:=fp) (fun b hb=>?_) (fun b o _ _ hc e _=>k b o hc e) (fun b o _ _ hc e _=>⟨o.slots,k b o hc e⟩) (fun b o _ e n=>by rw[ay (XQ b o e)];exact n)
  (fun b o hc e=>⟨o,k b o hc e⟩) (fun b xs e=>by rw[ay (neT b _ e)];exact e) (fun b _ _ e=>by rw[ay (neT b _ e)];exact e) (fun b ps e=>⟨#[],by rw[ay (neT b _ e),e];simp⟩) (fun m hm=>?_) (fun b u e=>?_) I.bare
 ·obtain⟨f0,f1,f2,f3,f4,f5⟩:=hf b hb
  exact⟨f3,f1,f4,f5⟩
 ·obtain⟨o,es,ep,ho,r⟩:=hm
  exact⟨o,es,ep,k _ o (fun z=>(hf _ z).2.1 rfl) ho,r⟩
 ·by_cases hb:b=s.heap.objs.size
  ·subst hb;rw[a9]at e;cases e;exact new
  ·rw[ay hb]at e
   refine(I.az b u e).lM (fun c v hc q=>k c v ?_ q) (fun c q=>by rw[ay (neT c _ q)];exact q) fun c xs q=>by rw[ay (neT c _ q)];exact q
   rcases hc with z|z
   ·rw[z];exact lY b u e
   ·exact lY c _ z
end
noncomputable def CJ(K:PySem.W.Frag)(a:Addr):It :=
 ⟨fun i H=>∃xs x,bw K H a xs∧xs[i]?=some x,fun i H x H'=>∃t y,x=.ref t∧H t=none∧H'=upd H t (.tup [.int i,y])∧∀xs,bw K H a xs→xs[i]?=some y,fun i H=>∃xs,bw K H a xs∧xs.length≤i⟩
theorem NW{P:Program}{w:World}{K:PySem.W.Frag}{elts:List Expr}{x1}{pos:Pos}(a e it:Addr)(yw:e≠it):Turn P w K (.Tuple elts x1 pos) (CJ K a) [e,it] e (fun i h=>(∃old,IsEnum h e it i old)∧h.IsListIter it a i) where
 mem:=by simp
 obj:=fun i h st b hb=>by
  obtain⟨⟨old,he⟩,o,ho,c,d⟩:=st
  rcases fK.mp hb with rfl|hb
  ·exact⟨_,he,fun v z=>nomatch z⟩
  ·have e:b=it:=by simpa using hb
   subst e
   exact⟨o,ho,fun v z=>by rw[d]at z;cases z⟩
 keep:=fun i h h' st k=>by
  obtain⟨⟨old,he⟩,hit⟩:=st
  exact⟨⟨old,k e (by simp) _ he⟩,hit.at fun o q=>k it (by simp) o q⟩
 item:=by
  intro X hP hw hK hc i pins s σ H E I hf st hg
  subst hP hw hK
  obtain⟨xs,x,hq,hx⟩:=hg
  obtain⟨its,rv,p,hz⟩:=I.list hq
  obtain⟨u,hu,ru⟩:=rv.get hx
  obtain⟨⟨old,he⟩,hit⟩:=st
  have KR:e<s.heap.objs.size:=bz he
  have XR:it<s.heap.objs.size:=by obtain⟨_,q,_⟩:=hit;exact bz q
  have hT:H s.heap.objs.size=none:=I.az.fresh (aR _)
  refine wpAny_pyNext_enum_item he hit p.isList (x:=u) (by simpa using hu) yw fun h1 ho WR ht hsz hk=>⟨_,rfl,?_⟩
  refine wpAny_letOwnedTupleGo_enum ho fun h2 yE sb=>?_
  have CK:h2.get? s.heap.objs.size=some { cls:=.type "tuple",data:=.seq #[.int i s.toks,u] }:=(sb.2 _ (Nat.ne_of_gt KR)).trans ht
  have k2:∀b o,b∉[e,it]→s.heap.get? b=some o→h2.get? b=some o:=fun b o nb q=>by
   have n1:b≠e:=fun z=>nb (by simp[z])
   have n2:b≠it:=fun z=>nb (by simp[z])
   exact(sb.2 b n1).trans (hk b o n1 n2 q)
  refine⟨.ref s.heap.objs.size,upd H s.heap.objs.size (.tup [.int i,x]),?_,rfl,⟨s.heap.objs.size,x,rfl,hT,rfl,fun ys hy=>by rw[I.vE hy hq];exact hx⟩,⟨⟨_,by simpa using yE⟩,WR.at fun o q=>(sb.2 it yw.symm).trans q⟩,fun b hb=>?_⟩
  ·refine D1 (t':=s.toks+1) I k2 hf ⟨by show 2≤sizeLine;decide,[.int i s.toks,u],.cons ⟨_,rfl⟩ (.cons ru .nil),⟨_,CK,rfl,rfl,_,rfl⟩⟩
  ·have gC:b<s.heap.objs.size:=by
    rcases fK.mp hb with rfl|hb
    ·exact KR
    ·have e:b=it:=by simpa using hb
     rw[e];exact XR
   rw[ay (cK gC)]
   exact(hf b hb).1
 done:=by
  intro X hP hw hK hc i pins s σ H E I hf st hg
  subst hP hw hK
  obtain⟨xs,hq,hx⟩:=hg
  obtain⟨its,rv,p,hz⟩:=I.list hq
  obtain⟨⟨old,he⟩,hit⟩:=st
  have hl:=rv.length
  refine wpAny_pyNext_enum_end (I.ok.hd hc) he hit p.isList (by simp;omega) fun h1 eb=>⟨rfl,?_⟩
  exact Ei (fp:=[e,it]) (t':=s.toks) I (fun b o nb q=>eb b o (fun z=>nb (by simp[z])) q) hf
 self:=fun A i s Q E st h=>by
  obtain⟨⟨old,he⟩,_⟩:=st
  exact wpAny_pyIter_enum he h
section
variable {X:Cx}
noncomputable def AH(K:PySem.W.Frag)(ta:TA):TI:=fun σ H R=>ta σ H fun vs H1=>∃a xs,vs=[.ref a]∧bw K H1 a xs∧R (CJ K a) H1
theorem Ri {a:Expr}{ta:TA}{p pos pos':Pos}{elts:List Expr} {x1} (hg:Gl X "enumerate") (hm:X.mg "enumerate" = none) (ha:PA X [a] ta) (hs:starEach [a] X.env=[(false,eval a X.env)]:=by rfl):PI X (.Tuple elts x1 pos') (.Call (.Name "enumerate" p) [a] [] pos) (AH X.K ta):=by
 intro pins s σ H R I h
 refine Call_ (p7 I hg hm PyProof.Rows.Boot.«enumerate» (xW (aC (ha pos pins s σ H _ I h) fun us s1 ⟨vs,H1,I1,r1,q1⟩=>?_) hs rfl))
 obtain⟨l,xs,e,hq,q⟩:=q1
 subst e
 cases r1 with
 |cons r rr =>
  cases rr
  cases r
  obtain⟨its,rv,pl,hz⟩:=I1.list hq
  refine call_enumerate_list pl.isList fun h1 he hit hsz hk=>?_
  have I2:L2.Inv X pins σ H1 { s1 with heap:=h1 }:=I1.kept (t':=s1.toks) hk
  refine wpAny_pyIter_enum he ?_
  have n1:s1.heap.objs.size+1≠s1.heap.objs.size:=by omega
  refine⟨s1.heap.objs.size+1,[s1.heap.objs.size+1,s1.heap.objs.size],_,_,H1,rfl,I2,NW l _ _ n1,⟨⟨_,he⟩,hit⟩,fun b hb=>?_,q⟩
  have gC:s1.heap.objs.size≤b:=by
   rcases fK.mp hb with rfl|hb
   ·omega
   ·have e:b=s1.heap.objs.size:=by simpa using hb
    exact qU e.symm
  have z:=I1.oF (H':=H1) gC (I1.az.fresh gC)
  exact z
theorem Py {K:PySem.W.Frag}{a:Expr}{ta:TA}{p pos pos':Pos}{elts:List Expr} {x1} (hK:X.K=K) (hg:Gl X "enumerate") (hm:X.mg "enumerate" = none) (ha:PA X [a] ta) (hs:starEach [a] X.env=[(false,eval a X.env)]:=by rfl):PI X (.Tuple elts x1 pos') (.Call (.Name "enumerate" p) [a] [] pos) (AH K ta):=by subst hK;exact Ri hg hm ha hs
end
noncomputable def cH(ds:List D):List D:=ds.mapIdx fun i d=>.tup [.int i,d]
noncomputable def pG(fs:Ev→Option (List (M×D))):Ev→Option (M×List D):=fun e=>(fs e).bind fun l=>match l with
 |[(m,.lst ds)]=>(ia m).map fun n=>(n,cH ds)
 |_=>none
section
variable {K:PySem.W.Frag}{H H' H₀:Hp}{O O':Addr→Prop}{σ:L2.St}{env:Ev}
theorem NX{a:Addr}{xs:List V}{ds:List D}{n:M}(e:dB n=true)(on:∀a o,O a→H a=some o→¬fP o)(hr:(Rd H a (.lst xs)∧¬O a)∨yy K a xs)(r:aq K (NM H₀ O n) H xs ds):iH K H₀ O (CJ K a) H n (cH ds):=by
 have st:∀{O2:Addr→Prop}{H2:Hp},aF O H O2 H2→bw K H2 a xs:=fun {O2 H2} s=>by
  rcases hr with⟨h|⟨o,h⟩,ha⟩|h
  ·exact .inl (.inl (s _ _ h ha).1)
  ·exact .inl (.inr ⟨o,(s _ _ h ha).1⟩)
  ·exact .inr h
 have l:(cH ds).length=ds.length:=by simp[cH]
 refine⟨fun O2 H2 i s hi=>?_,fun O2 H2 i x H3 s hi y=>?_,fun O2 H2 s=>⟨xs,st s,by rw[r.len,l];exact aR _⟩⟩
 ·rw[l]at hi
  exact⟨xs,xs[i]'(by rw[r.len];exact hi),st s,by simp⟩
 ·rw[l]at hi
  obtain⟨t,z,rfl,ht,rfl,y⟩:=y
  have y:=y xs (st s)
  obtain⟨v,hv,rv⟩:=r.get (i:=i) (d:=ds[i]) (by simp[hi])
  rw[y]at hv;cases hv
  have sm:aA H2 (upd H2 t (.tup [.int i,z])):=cq ht
  have hz:=(vQ e on s rv).keep sm
  refine⟨sm,.tup [.int i,ds[i]],by simp[cH,hi],?_⟩
  cases n
  ·exact Rp.tup (bf.of a9) (.cons (.int _) (.cons hz .nil))
  ·exact Rp.tup (bf.of a9) (.cons (.int _) (.cons hz .nil))
  ·cases e
  ·cases e
  ·cases e
  ·cases e
  ·cases e
  ·cases e
theorem Rj{t:TA}{fs:Ev→Option (List (M×D))}(h:gQ K t fs):JI K (AH K t) (pG fs):=by
 intro H₀ O H σ env R m ds Re e q
 obtain⟨l,el,e⟩:=ao e
 split at e
 ·rename_i m0 d0
  cases em:ia m0 with
  |none=>rw[em]at e;cases e
  |some n =>
   rw[em]at e;cases e
   refine h H₀ O H σ env _ _ Re el fun vs H1 s1 h1=>?_
   obtain⟨v,rfl,hv⟩:=h1.one
   obtain⟨e1,a,xs,rfl,hr,r⟩:=F4 em hv
   exact⟨a,xs,rfl,hr.elim (fun z=>.inl z.1) .inr,q _ H1 s1 e1 (NX e1 (Re.keep s1).on hr r)⟩
 ·cases e
end
end J
namespace J
open PySem L2
noncomputable def dZ:D→Bool
 |.lst ds=>D.bH ds
 |.dk ks=>D.bH (ks.map (·.2))
 |.dt ks=>D.bH (ks.map (·.2))
 |_=>false
def gR(io:List Nat)(vs:List V)(a:Addr):Prop:=∃i,i∈io∧vs[i]?=some (.ref a)
structure sJ (K:PySem.W.Frag)(H:Hp)(io:List Nat)(vs:List V)(ds:List D):Prop where
 len:vs.length=ds.length
 rd:∀(i:Nat) v d,i∉io→vs[i]?=some v→ds[i]?=some d→Rp K (fun a=>¬gR io vs a) H v d
 cl:∀(i:Nat) d,i∈io→ds[i]?=some d→∃p,vs[i]?=some (.ref p)∧Cell K (fun _=>False) H p d
 dj:∀(i j:Nat) p,i∈io→j∈io→vs[i]?=some (.ref p)→vs[j]?=some (.ref p)→i=j
noncomputable def qL(K:PySem.W.Frag)(n:Nat)(io:List Nat)(F:List D→Option (M×D×List D)):Sp:=fun vs H Q _=>vs.length=n∧∃ds m d outs,sJ K H io vs ds∧F ds=some (m,d,outs) ∧
 ∀v H',(∀a o,¬gR io vs a→H a=some o→H' a=some o)→outs.length=io.length→(∀(k i:Nat) o,io[k]?=some i→outs[k]?=some o→∃p,vs[i]?=some (.ref p)∧Cell K (fun _=>False) H' p o)→wO K H H' m d v→Q v H'
noncomputable def envOf:Fl→Ev
 |.nx e=>e
 |.bk e=>e
 |.ct e=>e
 |.rt e _ _=>e
noncomputable def collect:List Nat→Ev→Option (List D)
 |[],_=>some []
 |i::io,e=>match e[i]? with
  |some (some (.bi,d))=>if dZ d=true then (collect io e).bind fun r=>some (d::r)else none
  |_=>none
noncomputable def kg(io:List Nat)(fl:Fl):Option (M×D×List D):=(out fl).bind fun x=>(collect io (envOf fl)).bind fun o=>some (x.1,x.2,o)
noncomputable def ik(io:List Nat)(ds:List D):Ev:=ds.mapIdx fun i d=>some (if i∈io then M.bi else M.al,d)
noncomputable def jt(L:Nat)(io:List Nat)(g:Ev→Option Fl):List D→Option (M×D×List D):=fun ds=>(g (ik io ds++List.replicate (L-ds.length) none)).bind (kg io)
section
variable {K:PySem.W.Frag}{H H' H₀:Hp}{I:Nat→Option Addr}{O O':Addr→Prop}{σ:L2.St}{env:Ev}
theorem Cell.im{N N':Addr→Prop}{p:Addr}{d:D}(e:dZ d=true)(h:Cell K N H p d):Cell K N' H p d:=by
 cases d<;>simp only[dZ]at e<;>try (cases e;done)
 ·obtain⟨xs,q,r⟩:=h;exact⟨xs,q,r.im e⟩
 ·obtain⟨xs,q,z,r⟩:=h;exact⟨xs,q,z,r.im e⟩
 ·obtain⟨xs,q,z,r⟩:=h;exact⟨xs,q,z,r.im e⟩
theorem D2:∀{io:List Nat}{e:Ev}{r:List D},collect io e=some r→r.length=io.length
 |[],_,_,h=>by cases h;rfl
 |i::io,e,r,h=>by
  simp only[collect]at h
  split at h
  ·split at h
   ·obtain⟨r',er,h⟩:=ao h
    cases h
    rw[cz,cz,D2 er]
   ·cases h
  ·cases h
theorem Ej:∀{io:List Nat}{e:Ev}{r:List D}{k i:Nat}{o:D},collect io e=some r→io[k]?=some i→r[k]?=some o→e[i]?=some (some (.bi,o))∧dZ o=true
 |[],_,_,_,_,_,_,h1,_=>by simp at h1
 |j::io,e,r,k,i,o,h,h1,h2=>by
  simp only[collect]at h
  split at h
  ·rename_i d hd
   split at h
   ·rename_i hc
    obtain⟨r',er,h⟩:=ao h
    cases h
    cases k with
    |zero=>simp at h1 h2;subst h1;subst h2;exact⟨hd,hc⟩
    |succ k=>exact Ej er (by simpa using h1) (by simpa using h2)
   ·cases h
  ·cases h
theorem D3{io:List Nat}{N:List Str}{vs:List V}{ds:List D}(A:sJ K H io vs ds):∃I0:Nat→Option Addr,(∀{i p},I0 i=some p→i∈io∧vs[i]?=some (.ref p))∧Rel K H I0 (gR io vs) H (L2.start N vs) (ik io ds++List.replicate (N.length-ds.length) none):=by
 let I0:Nat→Option Addr:=fun i=>if i∈io then (match vs[i]? with|some (.ref p)=>some p|_=>none)else none
 have jP:∀{i p},I0 i=some p→i∈io∧vs[i]?=some (.ref p):=fun {i p} z=>by
  simp only[I0]at z
  split at z
  ·rename_i hi
   split at z
   ·rename_i w hw;cases z;exact⟨hi,hw⟩
   ·cases z
  ·cases z
 have KS:∀{i p},i∈io→vs[i]?=some (.ref p)→I0 i=some p:=fun {i p} hi hv=>by simp only[I0,if_pos hi,hv]
 have sM:∀{i:Nat}{y:M×D},(ik io ds++List.replicate (N.length-ds.length) none)[i]?=some (some y)→ds[i]?=some y.2∧y.1=(if i∈io then M.bi else M.al):=fun {i y} z=>by
  rw[List.getElem?_append]at z
  split at z
  ·rename_i hi
   simp only[ik,List.getElem?_mapIdx,List.length_mapIdx]at z hi
   rw[bO hi]at z ⊢
   simp only[Option.map_some,Option.some.injEq]at z
   subst z;exact⟨rfl,rfl⟩
  ·have:=fB z
   have:=yf this
   cases this
 have xF:∀{i:Nat}{v:V},vs[i]?=some v→(L2.start N vs)[i]?=some (some v):=fun {i v} z=>by
  unfold L2.start
  have hi:i<vs.length:=(bt.mp z).1
  rw[lU (by simpa using hi),cE,z];rfl
 refine⟨I0,jP,?_⟩
 show Rel K H I0 (gR io vs) H (L2.start N vs) (ik io ds++List.replicate (N.length-ds.length) none)
 refine⟨⟨jX ?_ ?_,?_,fun a o e=>⟨o,e⟩,?_⟩,fun a o _ e=>e,?_,?_,?_,?_⟩
 ·unfold L2.start ik;simp[A.len]
 ·intro j y z hy hz m' d' ey
  subst ey
  obtain⟨hd,hm⟩:=sM hy
  have hj:j<vs.length:=by rw[A.len];exact(bt.mp hd).1
  have hv:vs[j]?=some vs[j]:=bO hj
  rw[xF hv]at hz;cases hz
  simp only at hm hd
  by_cases hi:j∈io
  ·rw[if_pos hi]at hm;subst hm
   obtain⟨p,hp,c⟩:=A.cl j d' hi hd
   rw[hv]at hp
   refine⟨rfl,_,rfl,p,c9 hp,⟨j,hi,by rw[hv,hp]⟩,c.wk fun _ z _=>z.elim⟩
  ·rw[if_neg hi]at hm;subst hm
   exact⟨rfl,_,rfl,A.rd j _ d' hi hv hd⟩
 ·rintro a ⟨i,hi,hv⟩
  have aT:i<ds.length:=by rw[←A.len];exact(bt.mp hv).1
  obtain⟨p,hp,c⟩:=A.cl i ds[i] hi (bO aT)
  rw[hv]at hp;cases hp
  obtain⟨o,eo,_⟩:=c.some
  exact⟨o,eo⟩
 ·rintro a o ⟨i,hi,hv⟩ eo
  have aT:i<ds.length:=by rw[←A.len];exact(bt.mp hv).1
  obtain⟨p,hp,c⟩:=A.cl i ds[i] hi (bO aT)
  rw[hv]at hp;cases hp
  obtain⟨o',KW,nt⟩:=c.some
  rw[eo]at KW;cases KW;exact nt
 ·rintro a ⟨i,hi,hv⟩;exact .inl ⟨i,KS hi hv⟩
 ·intro i d' p h1 p1
  obtain⟨hd,hm⟩:=sM h1
  by_cases hi:i∈io
  ·obtain⟨p',hp,_⟩:=A.cl i d' hi hd
   rw[xF hp]at p1;cases p1
   exact KS hi hp
  ·rw[if_neg hi]at hm;cases hm
 ·intro i j y z p h1 h2 o1 o2 p1 p2
  obtain⟨d1,m1⟩:=sM h1
  obtain⟨d2,m2⟩:=sM h2
  have hi:i∈io:=by
   by_cases hi:i∈io
   ·exact hi
   ·rw[if_neg hi]at m1;rw[m1]at o1;cases o1
  have hj:j∈io:=by
   by_cases hj:j∈io
   ·exact hj
   ·rw[if_neg hj]at m2;rw[m2]at o2;cases o2
  obtain⟨q1,KY,_⟩:=A.cl i _ hi d1
  obtain⟨q2,yt,_⟩:=A.cl j _ hj d2
  rw[xF KY]at p1;cases p1
  rw[xF yt]at p2;cases p2
  exact A.dj i j p hi hj KY yt
 ·have no:∀{i:Nat}{d:D},(ik io ds++List.replicate (N.length-ds.length) none)[i]?=some (some (M.nb,d))→False:=fun {i d} z=>by
   obtain⟨_,hm⟩:=sM z
   simp only at hm
   split at hm<;>cases hm
  exact⟨fun i j d d' h1=>(no h1).elim,fun i j d x p q xs h1=>(no h1).elim⟩
theorem NZ{ts:TS}{g:Ev→Option Fl}{n:Nat}{io:List Nat}{N:List Str}{vs:List V}{Q:VK}{E:XK}(h:JS K ts g)(hs:qL K n io (jt N.length io g) vs H Q E):ts { nx:=fun _ H'=>Q .non H',rt:=Q } (L2.start N vs) H:=by
 obtain⟨hl,ds,m,d,outs,A,e,q⟩:=hs
 obtain⟨fl,ef,eo⟩:=ao e
 obtain⟨x,ex,eo⟩:=ao eo
 obtain⟨oo,ec,eo⟩:=ao eo
 cases eo
 obtain⟨I0,jP,R⟩:=D3 (N:=N) A
 have fin:∀(O':Addr→Prop) (H':Hp) (σ':L2.St) (v:V),Rel K H I0 O' H' σ' (envOf fl)→wO K H H' x.1 x.2 v→Q v H':=by
  intro O' H' σ' v R' ro
  refine q v H' (fun a o n e=>R'.fr a o (fun i z=>n ⟨i,(jP z).1,(jP z).2⟩) e) (D2 ec) (fun k i o h1 h2=>?_) ro
  obtain⟨he,hc⟩:=Ej ec h1 h2
  obtain⟨w,hw,_,p,rfl,_,c⟩:=R'.e.at he
  have:=R'.ba i o p he hw
  exact⟨p,(jP this).2,c.im hc⟩
 refine h H I0 (gR io vs) H _ _ _ fl R ef ?_
 cases fl with
 |nx e'=>cases ex;exact fun O' H' σ' R' st=>fin O' H' σ' .non R' Rp.non
 |bk e'=>cases ex
 |ct e'=>cases ex
 |rt e' m' d' =>
  intro O' H' σ' v R' st hv
  refine fin O' H' σ' v R' ?_
  cases m'<;>simp only[out]at ex
  ·split at ex
   ·rename_i hi;cases ex;exact(show Rp K _ H' v d' from hv.weak.im hi)
   ·cases ex
  ·cases ex;exact(show Rp K _ H' v d' from Rp.wk (fun a h _=>h.2) hv)
  ·cases ex
   obtain⟨p,rfl,_,h0,_,c⟩:=hv
   exact⟨p,rfl,h0,c.wk fun a h _=>⟨h.1.2,h.2⟩⟩
  ·cases ex
   obtain⟨p,rfl,hO,h0,c⟩:=hv
   exact⟨p,rfl,h0,c.wk fun a h _=>⟨h.2,fun z=>h.1 (z▸hO)⟩⟩
  ·cases ex
  ·cases ex;exact(show Rp K _ H' v d' from hv)
  ·cases ex;exact(show Rp K _ H' v d' from g9.rp (fun _ z=>z) hv)
  ·cases ex;exact(show dz K _ H' d' v from dz.wk (fun q z=>z.2.1) hv)
end
section
variable {K:PySem.W.Frag}{H H' H₀:Hp}{I:Nat→Option Addr}{O O':Addr→Prop}{σ:L2.St}{env:Ev}
theorem Rel.WT{env':Ev}{P:Addr→Prop}(R:Rel K H₀ I O H σ env)(hP:∀a,P a→O a)(hW:∀a,P a→∃(j:Nat) (x:M×D),env[j]?=some (some x)∧own x.1=true∧σ[j]?=some (some (.ref a)))(kp:∀a o,¬P a→H a=some o→H' a=some o)(cs:∀a,P a→∃o,H' a=some o∧¬fP o)(hl:env'.length=env.length)
  (sl:∀(j:Nat) x',env'[j]?=some (some x')→(env[j]?=some (some x')∧∀p,own x'.1=true→σ[j]?=some (some (.ref p))→¬P p) ∨
   (∃d p,env[j]?=some (some (x'.1,d))∧own x'.1=true∧σ[j]?=some (some (.ref p))∧Cell K (fun a=>¬O a∧H₀ a=none) H' p x'.2)) :
  Rel K H₀ I O H' σ env'∧aF O H O H':=by
 have kN:∀{N:Addr→Prop},(∀a,N a→¬O a)→Keeps N H H':=fun w a u h z=>kp a u (fun hp=>by
  rcases z with z|z
  ·exact w a z (hP a hp)
  ·exact R.e.on a u (hP a hp) h z) h
 have old:∀{j:Nat}{x':M×D},env'[j]?=some (some x')→∃d,env[j]?=some (some (x'.1,d)):=fun {j x'} h=>by
  rcases sl j x' h with⟨q,_⟩|⟨d,p,q,_⟩
  ·exact⟨x'.2,q⟩
  ·exact⟨d,q⟩
 have KZ:∀{j:Nat}{d:D}{p:Addr}{xs:List V},env[j]?=some (some (.nb,d))→σ[j]?=some (some (.ref p))→H p=some (.lst xs)→∀a,P a→a≠p∧V.ref a∉xs:=fun {j d p xs} h1 h2 h3 a ha=>by
  obtain⟨j',x,e1,e2,e3⟩:=hW a ha
  exact R.nd.2 j j' d x p a xs h1 h2 e1 e2 e3 h3
 have uX:∀{j:Nat}{d:D},env'[j]?=some (some (.nb,d))→env[j]?=some (some (.nb,d)):=fun {j d} h=>by
  rcases sl j (.nb,d) h with⟨q,_⟩|⟨d0,p,q,ow,_⟩
  ·exact q
  ·cases ow
 refine⟨⟨⟨jX (by rw[hl];exact cJ R.e.sl) ?_,?_,?_,?_⟩,?_,R.ow,?_,?_,?_⟩,?_⟩
 ·intro j y z hy hz m d ey
  subst ey
  rcases sl j (m,d) hy with⟨q,np⟩|⟨d0,p,q,ow,hp,c⟩
  ·obtain⟨v,hv,n,hm⟩:=R.e.at q
   rw[hz]at hv;cases hv
   refine⟨n,v,rfl,?_⟩
   cases m
   ·exact Rp.keep (kN fun a h=>h) hm
   ·exact Rp.keep (kN fun a h=>h.1) hm
   ·cases n
   ·obtain⟨p,rfl,h1,h2,c⟩:=hm
    obtain⟨o,eo,_⟩:=c.some
    exact⟨p,rfl,h1,h2,c.keep (kN fun a h=>h.1) ((kp p o (np p rfl hz) eo).trans eo.symm)⟩
   ·obtain⟨p,rfl,h1,c⟩:=hm
    obtain⟨o,eo,_⟩:=c.some
    exact⟨p,rfl,h1,c.keep (kN fun a h=>h.1) ((kp p o (np p rfl hz) eo).trans eo.symm)⟩
   ·cases n
   ·obtain⟨p',qs,aJ,rfl,e2,h1,h2,h3,h4,h5,h6⟩:=hm
    have nb:=KZ q hz h3
    exact⟨p',qs,aJ,rfl,e2,h1,h2,kp _ _ (fun z=>(nb _ z).1 rfl) h3,h4,h5,jf (fun x ds hx ⟨xs,a,r⟩=>⟨xs,kp _ _ (fun z=>(nb _ z).2 (de.mpr ⟨x,hx,rfl⟩)) a,r.keep (kN fun a h=>h.1)⟩) h6⟩
   ·cases n
  ·obtain⟨v,hv,n,hm⟩:=R.e.at q
   rw[hz]at hp hv;cases hp;cases hv
   refine⟨n,_,rfl,?_⟩
   simp only at c ow
   cases m<;>simp only[own]at ow<;>try (cases ow;done)
   ·obtain⟨p',e,h1,h2,_⟩:=hm;cases e;exact⟨p,rfl,h1,h2,c⟩
   ·obtain⟨p',e,h1,_⟩:=hm;cases e;exact⟨p,rfl,h1,c⟩
 ·intro a ha
  by_cases z:P a
  ·obtain⟨o,e,_⟩:=cs a z;exact⟨o,e⟩
  ·obtain⟨o,e⟩:=R.e.od a ha;exact⟨o,kp a o z e⟩
 ·intro a o h
  obtain⟨o',e⟩:=R.e.hd a o h
  by_cases z:P a
  ·obtain⟨o,e,_⟩:=cs a z;exact⟨o,e⟩
  ·exact⟨o',kp a o' z e⟩
 ·intro a o ha e
  by_cases z:P a
  ·obtain⟨o',e',n⟩:=cs a z;rw[e]at e';cases e';exact n
  ·obtain⟨o',e'⟩:=R.e.od a ha
   have:=kp a o' z e'
   rw[e]at this;cases this
   exact R.e.on a _ ha e'
 ·intro a o n h
  refine kp a o (fun z=>?_) (R.fr a o n h)
  rcases R.ow a (hP a z) with⟨i,q⟩|q
  ·exact n i q
  ·rw[h]at q;cases q
 ·intro i d p h1 p1
  obtain⟨d0,q⟩:=old h1
  exact R.ba i d0 p q p1
 ·intro i j x y p h1 h2 o1 o2 p1 p2
  obtain⟨d1,q1⟩:=old h1
  obtain⟨d2,q2⟩:=old h2
  exact R.dj i j _ _ p q1 q2 o1 o2 p1 p2
 ·refine⟨fun i j d d' h1 h2=>R.nd.1 i j d d' (uX h1) (uX h2),fun i j d x p q xs h1 p1 h2 o2 p2 e=>?_⟩
  obtain⟨qs,aJ,_,_,_,e3,_⟩:=R.e.nest (uX h1) p1
  have nb:=KZ (uX h1) p1 e3
  have e4:=kp _ _ (fun z=>(nb _ z).1 rfl) e3
  rw[e4]at e;cases e
  obtain⟨d2,q2⟩:=old h2
  exact R.nd.2 i j d (x.1,d2) p q _ (uX h1) p1 q2 o2 p2 e3
 ·intro a o h n
  exact⟨kp a o (fun z=>n (hP a z)) h,n⟩
def jQ(K:PySem.W.Frag)(ta:TA)(fs:Ev→Option (List (M×D)))(pos:List (Nat×Nat)):Prop :=
 ∀H₀ O H σ env Q ak,cZ K H₀ O H σ env→fs env=some ak→(∀vs H',aA H H'→fh K H₀ O H H' ak vs→(∀ij∈pos,∃v x,vs[ij.1]?=some v∧σ[ij.2]?=some (some v)∧env[ij.2]?=some (some x)∧ak[ij.1]?=some x)→Q vs H')→ta σ H Q
theorem Rk:jQ K kr ah []:=by
 intro H₀ O H σ env Q ak R h q
 cases h
 exact q [] H (aA.refl H) .nil (fun _ z=>nomatch z)
noncomputable def yF(pos:List (Nat×Nat)):List (Nat×Nat):=pos.map fun ij=>(ij.1+1,ij.2)
theorem Pz{te:TE}{ta:TA}{f:Ev→Option (M×D)}{g:Ev→Option (List (M×D))}{pos:List (Nat×Nat)}(hf:JT K te f)(hg:jQ K ta g pos):jQ K (lG te ta) (ag f g) (yF pos):=by
 intro H₀ O H σ env Q ak R h q
 obtain⟨x,ex,h⟩:=ao h
 obtain⟨r,er,h⟩:=ao h
 cases h
 refine hf H₀ O H σ env _ x.1 x.2 R ex fun v H1 s1 h1=>?_
 refine hg H₀ O H1 σ env _ r (R.keep s1) er fun vs H2 s2 h2 hp=>?_
 refine q (v::vs) H2 (s1.trans s2) (.cons (h1.keep s2) (j8 (fun _ _ z=>z.hb fun a z=>s1.free z) h2)) (fun ij pH=>?_)
 obtain⟨CL,hm,rfl⟩:=de.mp pH
 obtain⟨w,y,a,b,c,d⟩:=hp CL hm
 exact⟨w,y,by simpa using a,b,c,by simpa using d⟩
theorem Rl{i:Nat}{ta:TA}{g:Ev→Option (List (M×D))}{pos:List (Nat×Nat)}(hg:jQ K ta g pos):jQ K (lG (gq i) ta) (ag (jV i) g) ((0,i)::yF pos):=by
 intro H₀ O H σ env Q ak R h q
 obtain⟨x,ex,h⟩:=ao h
 obtain⟨r,er,h⟩:=ao h
 cases h
 have ei:env[i]?=some (some x):=by
  unfold jV at ex
  cases e:env[i]? with
  |none=>rw[e]at ex;cases ex
  |some z=>rw[e]at ex;exact cP some ex
 obtain⟨v,hv,n,hm⟩:=R.at ei
 refine⟨v,hv,?_⟩
 refine hg H₀ O H σ env _ r R er fun vs H2 s2 h2 hp=>?_
 refine q (v::vs) H2 s2 (.cons ((hm.Ig n).keep s2) h2) (fun ij pH=>?_)
 rcases fK.mp pH with rfl|pH
 ·exact⟨v,x,rfl,hv,ei,rfl⟩
 ·obtain⟨CL,hm,rfl⟩:=de.mp pH
  obtain⟨w,y,a,b,c,d⟩:=hp CL hm
  exact⟨w,y,by simpa using a,b,c,by simpa using d⟩
noncomputable def iz:List Nat→List D→Ev→Option Ev
 |[],[],e=>some e
 |j::sl,o::outs,e=>match e[j]? with
  |some (some (m,_))=>iz sl outs (e.set j (some (m,o)))
  |_=>none
 |_,_,_=>none
end
section
variable {K:PySem.W.Frag}{H H' H₀:Hp}{I:Nat→Option Addr}{O O':Addr→Prop}{σ:L2.St}{env:Ev}
theorem fh.at{Hb:Hp}:∀{ak:List (M×D)}{vs:List V}{i:Nat}{x:M×D},fh K H₀ O Hb H ak vs→ak[i]?=some x→∃v,vs[i]?=some v∧Val K H₀ O Hb H x.1 x.2 v
 |_,_,_,_,.nil,e=>by simp at e
 |_,_,0,_,.cons h _,e=>by simp at e;subst e;exact⟨_,rfl,h⟩
 |_,_,i+1,x,.cons _ r,e=>by
  obtain⟨v,h1,h2⟩:=fh.at (i:=i) (x:=x) r (by simpa using e)
  exact⟨v,by simpa using h1,h2⟩
theorem r9{α:Type}:∀{l:List α}{i j:Nat}{a:α},l.Nodup→l[i]?=some a→l[j]?=some a→i=j
 |[],_,_,_,_,h,_=>by simp at h
 |x::l,0,0,_,_,_,_=>rfl
 |x::l,0,j+1,a,nd,h1,h2=>by
  simp at h1;subst h1
  exact absurd (fB (show l[j]?=some x by simpa using h2)) (iQ.mp nd).1
 |x::l,i+1,0,a,nd,h1,h2=>by
  simp at h2;subst h2
  exact absurd (fB (show l[i]?=some x by simpa using h1)) (iQ.mp nd).1
 |x::l,i+1,j+1,a,nd,h1,h2=>by
  rw[r9 (iQ.mp nd).2 (show l[i]?=some a by simpa using h1) (by simpa using h2)]
theorem EG:∀{sl:List Nat}{outs:List D}{e e':Ev},iz sl outs e=some e'→e'.length=e.length∧outs.length=sl.length
 |[],[],_,_,h=>by cases h;exact⟨rfl,rfl⟩
 |[],_::_,_,_,h=>by cases h
 |_::_,[],_,_,h=>by cases h
 |j::sl,o::outs,e,e',h=>by
  simp only[iz]at h
  split at h
  ·have:=EG h
   rw[hG]at this
   exact⟨this.1,by rw[cz,cz,this.2]⟩
  ·cases h
theorem zG:∀{sl:List Nat}{outs:List D}{e e':Ev}{i:Nat},iz sl outs e=some e'→i∉sl→e'[i]?=e[i]?
 |[],[],_,_,_,h,_=>by cases h;rfl
 |[],_::_,_,_,_,h,_=>by cases h
 |_::_,[],_,_,_,h,_=>by cases h
 |j::sl,o::outs,e,e',i,h,hn=>by
  simp only[iz]at h
  split at h
  ·rw[zG h (fun z=>hn (cT _ z)),cU (fun z=>hn (by rw[z];exact cL))]
  ·cases h
theorem Fc:∀{sl:List Nat}{outs:List D}{e e':Ev}{k j:Nat},iz sl outs e=some e'→sl.Nodup→sl[k]?=some j→∃m d o,e[j]?=some (some (m,d))∧outs[k]?=some o∧e'[j]?=some (some (m,o))
 |[],_,_,_,_,_,_,_,h1=>by simp at h1
 |_::_,[],_,_,_,_,h,_,_=>by cases h
 |i::sl,o::outs,e,e',k,j,h,nd,h1=>by
  simp only[iz]at h
  split at h
  ·rename_i m d hd
   obtain⟨n1,n2⟩:=iQ.mp nd
   cases k with
   |zero =>
    simp at h1;subst h1
    refine⟨m,d,o,hd,rfl,?_⟩
    rw[zG h n1]
    have hi:i<e.length:=(bt.mp hd).1
    rw[List.getElem?_set_self hi]
   |succ k =>
    have K0:sl[k]?=some j:=by simpa using h1
    obtain⟨m',d',o',a,b,c⟩:=Fc h n2 K0
    have hj:i≠j:=fun z=>n1 (z▸fB K0)
    rw[cU hj]at a
    exact⟨m',d',o',a,by simpa using b,c⟩
  ·cases h
structure JD (io sl:List Nat)(pos:List (Nat×Nat))(ak:List (M×D)):Prop where
 c1:∀(k i:Nat),io[k]?=some i→∃j,sl[k]?=some j∧(i,j)∈pos
 c2:sl.Nodup
 c3:∀(i:Nat) x,i∉io→ak[i]?=some x→gi x.1 x.2=true∨(own x.1=true∧∃j,(i,j)∈pos∧j∉sl)
 c4:∀(i:Nat) x,i∈io→ak[i]?=some x→own x.1=true∧dZ x.2=true
 c5:sl.length=io.length
noncomputable def k9(io sl:List Nat)(pos:List (Nat×Nat))(ak:List (M×D)):Bool :=
 decide (sl.length=io.length)&&decide sl.Nodup&&(List.range io.length).all (fun k=>match io[k]?,sl[k]? with|some i,some j=>decide ((i,j)∈pos)|_,_=>false) &&
 (List.range ak.length).all (fun i=>match ak[i]? with
  |some x=>if i∈io then own x.1&&dZ x.2 else gi x.1 x.2||(own x.1&&pos.any fun ij=>decide (ij.1=i)&&!decide (ij.2∈sl))
  |none=>true)
theorem Ug{io sl:List Nat}{pos:List (Nat×Nat)}{ak:List (M×D)}(h:k9 io sl pos ak=true):JD io sl pos ak:=by
 unfold k9 at h
 simp only[Bool.and_eq_true,decide_eq_true_eq,List.all_eq_true,List.mem_range]at h
 obtain⟨⟨⟨h1,h2⟩,h3⟩,h4⟩:=h
 refine⟨fun k i hk=>?_,h2,fun i x hi hx=>?_,fun i x hi hx=>?_,h1⟩
 ·have aT:k<io.length:=(bt.mp hk).1
  have q:=h3 k aT
  rw[hk]at q
  cases e:sl[k]? with
  |none=>rw[e]at q;cases q
  |some j=>rw[e]at q;exact⟨j,rfl,by simpa using q⟩
 ·have aT:i<ak.length:=(bt.mp hx).1
  have q:=h4 i aT
  rw[hx]at q
  simp only[if_neg hi,Bool.or_eq_true,Bool.and_eq_true,List.any_eq_true]at q
  rcases q with q|⟨q,ij,hm,z⟩
  ·exact .inl q
  ·refine .inr ⟨q,ij.2,?_,by simpa using z.2⟩
   have e:ij.1=i:=by simpa using z.1
   rw[←e];exact hm
 ·have aT:i<ak.length:=(bt.mp hx).1
  have q:=h4 i aT
  rw[hx]at q
  simpa only[if_pos hi,Bool.and_eq_true]using q
theorem Rm{io sl:List Nat}{pos:List (Nat×Nat)}{ak:List (M×D)}{vs:List V}{H1:Hp}(R:Rel K H₀ I O H σ env)(R1:Rel K H₀ I O H1 σ env)(ok:JD io sl pos ak)(hv:fh K H₀ O H H1 ak vs)
  (hp:∀ij∈pos,∃v x,vs[ij.1]?=some v∧σ[ij.2]?=some (some v)∧env[ij.2]?=some (some x)∧ak[ij.1]?=some x) :
  (∀{i j:Nat},(i,j)∈pos→∀{x:M×D},ak[i]?=some x→own x.1=true→∃p:Addr,vs[i]?=some (V.ref p)∧σ[j]?=some (some (V.ref p))∧env[j]?=some (some x)∧O p∧Cell K (fun a=>¬O a∧H₀ a=none) H1 p x.2) ∧
  (∀{i:Nat}{p:Addr},i∈io→vs[i]?=some (V.ref p)→∃(k j:Nat) (x:M×D),io[k]?=some i∧sl[k]?=some j∧ak[i]?=some x∧σ[j]?=some (some (V.ref p))∧env[j]?=some (some x)∧own x.1=true∧O p∧Cell K (fun a=>¬O a∧H₀ a=none) H1 p x.2∧dZ x.2=true) ∧
  (∀a,gR io vs a→O a)∧sJ K H1 io vs (ak.map (·.2)):=by
 have hlen:ak.length=vs.length:=cJ hv
 have at_:∀{i:Nat}{x:M×D},ak[i]?=some x→∃v,vs[i]?=some v∧Val K H₀ O H H1 x.1 x.2 v:=fun {i x} hx=>fh.at hv hx
 have qM:∀{i j:Nat},(i,j)∈pos→∀{x:M×D},ak[i]?=some x→own x.1=true→∃p:Addr,vs[i]?=some (V.ref p)∧σ[j]?=some (some (V.ref p))∧env[j]?=some (some x)∧O p∧Cell K (fun a=>¬O a∧H₀ a=none) H1 p x.2:=fun {i j} pH {x} hx ox=>by
  obtain⟨v,x',a,b,c,z⟩:=hp (i,j) pH
  simp only at a b c z
  rw[hx]at z;cases z
  obtain⟨w,hw,_,hm⟩:=R1.e.at (i:=j) (m:=x.1) (d:=x.2) c
  rw[b]at hw;cases hw
  obtain⟨mx,dx⟩:=x
  cases mx<;>simp only[own]at ox<;>try (cases ox;done)
  ·obtain⟨p,rfl,h1,h2,cc⟩:=hm;exact⟨p,a,b,c,h1,cc⟩
  ·obtain⟨p,rfl,h1,cc⟩:=hm;exact⟨p,a,b,c,h1,cc⟩
 have kz:∀{i:Nat}{p:Addr},i∈io→vs[i]?=some (V.ref p)→∃(k j:Nat) (x:M×D),io[k]?=some i∧sl[k]?=some j∧ak[i]?=some x∧σ[j]?=some (some (V.ref p))∧env[j]?=some (some x)∧own x.1=true∧O p∧Cell K (fun a=>¬O a∧H₀ a=none) H1 p x.2∧dZ x.2=true:=fun {i p} hi iV=>by
  obtain⟨k,hk⟩:=List.getElem?_of_mem hi
  obtain⟨j,hj,tX⟩:=ok.c1 k i hk
  have aT:i<ak.length:=by rw[hlen];exact(bt.mp iV).1
  have hx:ak[i]?=some ak[i]:=bO aT
  obtain⟨ox,cx⟩:=ok.c4 i _ hi hx
  obtain⟨p',a,b,c,h1,cc⟩:=qM tX hx ox
  rw[iV]at a;cases a
  exact⟨k,j,_,hk,hj,hx,b,c,ox,h1,cc,cx⟩
 have sub:∀a,gR io vs a→O a:=fun a ⟨i,hi,iV⟩=>by
  obtain⟨_,_,_,_,_,_,_,_,_,h1,_⟩:=kz hi iV;exact h1
 have A:sJ K H1 io vs (ak.map (·.2)):=by
  refine⟨by rw[aU,hlen],fun i v d hi iV hd=>?_,fun i d hi hd=>?_,fun i j p hi hj h1 h2=>?_⟩
  ·rw[cE]at hd
   cases hx:ak[i]? with
   |none=>rw[hx]at hd;cases hd
   |some x =>
    rw[hx]at hd;cases hd
    obtain⟨v',cF,Bh⟩:=at_ hx
    rw[iV]at cF;cases cF
    rcases ok.c3 i x hi hx with z|⟨z,j,hj,nj⟩
    ·exact(Bh.gi z).wk fun a h _=>fun w=>h (sub a w)
    ·obtain⟨p,a,b,c,h1,cc⟩:=qM hj hx z
     rw[iV]at a;cases a
     refine(cc.wk fun a h _=>(fun w=>h.1 (sub a w):¬gR io vs a)).rp (fun⟨i2,CM,yG⟩=>?_)
     obtain⟨k,j2,x2,_,CN,_,s2,e2,o2,_⟩:=kz CM yG
     have:=R.dj j j2 x x2 p c e2 z o2 b s2
     exact nj (this▸fB CN)
  ·rw[cE]at hd
   cases hx:ak[i]? with
   |none=>rw[hx]at hd;cases hd
   |some x =>
    rw[hx]at hd;cases hd
    obtain⟨k,hk⟩:=List.getElem?_of_mem hi
    obtain⟨j,hj,tX⟩:=ok.c1 k i hk
    obtain⟨ox,cx⟩:=ok.c4 i _ hi hx
    obtain⟨p',a,b,c,h1,cc⟩:=qM tX hx ox
    exact⟨p',a,cc.im cx⟩
  ·obtain⟨k1,j1,x1,XS,XT,_,XU,XW,o1,_⟩:=kz hi h1
   obtain⟨k2,j2,x2,K1,XX,_,XY,XZ,o2,_⟩:=kz hj h2
   have ej:=R.dj j1 j2 x1 x2 p XW XZ o1 o2 XU XY
   subst ej
   have ek:k1=k2:=r9 ok.c2 XT XX
   subst ek
   rw[XS]at K1;exact c9 K1
 exact⟨qM,kz,sub,A⟩
noncomputable def pZ(io sl:List Nat)(pos:List (Nat×Nat))(F:List D→Option (M×D×List D))(fs:Ev→Option (List (M×D))):Ev→Option (M×D×Ev):=fun e=>(fs e).bind fun ak=>if k9 io sl pos ak=true then (F (ak.map (·.2))).bind fun r=>(iz sl r.2.2 e).bind fun e'=>some (r.1,r.2.1,e')else none
theorem Hk{n:Nat}{io sl:List Nat}{pos:List (Nat×Nat)}{F:List D→Option (M×D×List D)}{fs:Ev→Option (List (M×D))}{ta:TA}{E:XK}{m:M}{d:D}{e':Ev}{Q:VK}(R:Rel K H₀ I O H σ env)(ha:jQ K ta fs pos)(hl:∀e ak,fs e=some ak→ak.length=n)
  (h:pZ io sl pos F fs env=some (m,d,e')) (q:∀v H',Rel K H₀ I O H' σ e'→aF O H O H'→(m=.un∨m=.fr∨m=.ut)→Rp K (fun a=>¬O a∧H₀ a=none) H' v d→Q v H'):j7 (qL K n io F) [] E ta σ H Q:=by
 obtain⟨ak,em,h⟩:=ao h
 split at h
 ·rename_i hb
  have ok:=Ug hb
  obtain⟨⟨m1,d1,outs⟩,eF,h⟩:=ao h
  obtain⟨e1,es,h⟩:=ao h
  cases h
  refine ha H₀ O H σ env _ ak R.e em fun vs H1 s1 hv hp=>?_
  have R1:=R.keep s1
  have hlen:ak.length=vs.length:=cJ hv
  obtain⟨qM,kz,sub,A⟩:=Rm R R1 ok hv hp
  rw[oV]
  refine⟨by rw[←hlen];exact hl _ _ em,ak.map (·.2),m1,d1,outs,A,eF,fun v H2 kp ol oc ro=>?_⟩
  obtain⟨el,eo⟩:=EG es
  have cs:∀a,gR io vs a→∃o,H2 a=some o∧¬fP o:=fun a ⟨i,hi,iV⟩=>by
   obtain⟨k,hk⟩:=List.getElem?_of_mem hi
   have X1:k<outs.length:=by rw[ol];exact(bt.mp hk).1
   obtain⟨p,mn,c⟩:=oc k i _ hk (bO X1)
   rw[iV]at mn;cases mn
   exact c.some
  obtain⟨R2,st⟩:=R1.WT (P:=gR io vs) (env':=e') sub (fun a ⟨i,hi,iV⟩=>by
   obtain⟨k3,j3,x3,_,_,_,s3,e3,o3,_⟩:=kz hi iV
   exact⟨j3,x3,e3,o3,s3⟩) kp cs el (fun j x' pB=>by
   by_cases hj:j∈sl
   ·obtain⟨k,hk⟩:=List.getElem?_of_mem hj
    obtain⟨m0,d0,o0,a,b,c⟩:=Fc es ok.c2 hk
    rw[pB]at c;cases c
    have K2:k<io.length:=by rw[←ok.c5];exact(bt.mp hk).1
    have K3:io[k]?=some io[k]:=bO K2
    obtain⟨j',K4,tX⟩:=ok.c1 k _ K3
    rw[hk]at K4;cases K4
    obtain⟨p,CP,cell⟩:=oc k _ _ K3 b
    have IA:io[k]∈io:=qW K2
    obtain⟨k3,j3,x3,Zt,Zu,_,s3,e3,o3,_⟩:=kz IA CP
    have aT:io[k]<ak.length:=by rw[hlen];exact(bt.mp CP).1
    have hx:ak[io[k]]?=some ak[io[k]]:=bO aT
    obtain⟨ox,_⟩:=ok.c4 _ _ IA hx
    obtain⟨p',a',b',c',_⟩:=qM tX hx ox
    rw[CP]at a';cases a'
    rw[a]at c'
    have c'':=c9 (c9 c')
    refine .inr ⟨d0,p,a,?_,b',cell.wk fun _ z _=>z.elim⟩
    rw[←c'']at ox;exact ox
   ·rw[zG es hj]at pB
    refine .inl ⟨pB,fun p ow hs ⟨i2,CM,yG⟩=>?_⟩
    obtain⟨k,j2,x2,_,CN,_,s2,e2,o2,_⟩:=kz CM yG
    have:=R.dj j j2 x' x2 p pB e2 ow o2 hs s2
    exact hj (this▸fB CN))
  have mm:m1=.un∨m1=.fr∨m1=.ut:=by cases m1<;>first|exact .inl rfl|exact .inr (.inl rfl)|exact .inr (.inr rfl)|exact ro.elim
  have Bh:=zR (H₀:=H₀) R1.e.od R1.e.hd ro
  exact q v H2 R2 ((aF.same s1).trans st) mm (Bh.bM (by rcases mm with rfl|rfl|rfl<;>rfl))
 ·cases h
noncomputable def i7(io sl:List Nat)(pos:List (Nat×Nat))(F:List D→Option (M×D×List D))(fs:Ev→Option (List (M×D))):Ev→Option Fl:=fun e=>(pZ io sl pos F fs e).bind fun r=>some (.nx r.2.2)
noncomputable def sN(i:Nat)(io sl:List Nat)(pos:List (Nat×Nat))(F:List D→Option (M×D×List D))(fs:Ev→Option (List (M×D))):Ev→Option Fl:=fun e=>(pZ io sl pos F fs e).bind fun r=>some (.nx (r.2.2.set i (some (.fr,r.2.1))))
theorem N0{n:Nat}{io sl:List Nat}{pos:List (Nat×Nat)}{F:List D→Option (M×D×List D)}{fs:Ev→Option (List (M×D))}{ta:TA}{E:XK}(ha:jQ K ta fs pos)(hl:∀e ak,fs e=some ak→ak.length=n):JS K (qo (j7 (qL K n io F) [] E ta)) (i7 io sl pos F fs):=by
 intro H₀ I O H σ env Ds fl R e q
 obtain⟨⟨m,d,e'⟩,er,e⟩:=ao e
 cases e
 exact Hk R ha hl er fun v H' R' st _ _=>q O H' σ R' st
theorem PB{i n:Nat}{io sl:List Nat}{pos:List (Nat×Nat)}{F:List D→Option (M×D×List D)}{fs:Ev→Option (List (M×D))}{ta:TA}{E:XK}(ha:jQ K ta fs pos)(hl:∀e ak,fs e=some ak→ak.length=n):JS K (gK (j7 (qL K n io F) [] E ta) (g0 i)) (sN i io sl pos F fs):=by
 intro H₀ I O H σ env Ds fl R e q
 obtain⟨⟨m,d,e'⟩,er,e⟩:=ao e
 cases e
 exact Hk R ha hl er fun v H' R' st _ hv=>q O H' _ (R'.set_plain (i:=i) (m:=.fr) rfl rfl hv) st
end
mutual
noncomputable def toPy:D→PyData
 |.non=>.none
 |.bl b=>.bool b
 |.int i=>.int i
 |.str x=>.str x
 |.tup ds=>.tuple (cv ds)
 |.lst ds=>.list (cv ds)
 |.ty _=>.none
 |.dk _=>.none
 |.dt _=>.none
noncomputable def cv:List D→List PyData
 |[]=>[]
 |d::ds=>toPy d::cv ds
end
mutual
noncomputable def plain:D→Bool
 |.tup ds=>cC ds
 |.lst ds=>cC ds
 |.ty _=>false
 |.dk _=>false
 |.dt _=>false
 |.non=>true
 |.bl _=>true
 |.int _=>true
 |.str _=>true
noncomputable def cC:List D→Bool
 |[]=>true
 |d::ds=>plain d&&cC ds
end
section
variable {K:PySem.W.Frag}{H H' H₀:Hp}{O O':Addr→Prop}{σ:L2.St}{env:Ev}
mutual
theorem jm{N:Addr→Prop}:∀{v:V}{d:D},plain d=true→Rp K N H v d→Dn K H v (toPy d)
 |_,_,_,.non=>by simp only[toPy];exact .non
 |_,_,_,.bl b=>by simp only[toPy];exact .bl b
 |_,_,_,.int i=>by simp only[toPy];exact .int i
 |_,_,_,.str x=>by simp only[toPy];exact .str x
 |_,.ty n,e,.ty _=>by simp[plain]at e
 |_,.tup ds,e,.tup h r=>by simp only[toPy];exact .tup h (p5 (by simpa only[plain]using e) r)
 |_,.lst ds,e,.lst h n r=>by simp only[toPy];exact .lst (.inl h) (p5 (by simpa only[plain]using e) r)
 |_,.lst ds,e,.lstK h r=>by simp only[toPy];exact .lst (.inr h) (p5 (by simpa only[plain]using e) r)
 |_,.dk ds,e,.dk h n _ r=>by simp[plain]at e
 |_,.dt ds,e,.dt h n _ r=>by simp[plain]at e
theorem p5{N:Addr→Prop}:∀{vs:List V}{ds:List D},cC ds=true→aq K N H vs ds→bG K H vs (cv ds)
 |_,_,_,.nil=>by simp only[cv];exact .nil
 |_,d::ds,e,.cons h r=>by
  have e':plain d=true∧cC ds=true:=by simpa[cC]using e
  simp only[cv]
  exact .cons (jm e'.1 h) (p5 e'.2 r)
end
noncomputable def oz:D→D→Bool
 |.lst _,.lst _=>true
 |.tup _,.tup _=>true
 |.non,.non=>true
 |_,_=>false
theorem F8{a b:D}(h:oz a b=true):oH (toPy a) (toPy b):=by
 cases a<;>cases b<;>simp only[oz]at h<;>try (cases h;done)
 ·simp only[toPy];exact .non
 ·simp only[toPy];exact .tup _ _
 ·simp only[toPy];exact .lst _ _
noncomputable def jv(a b:D):Bool:=plain a&&plain b&&oz a b&&decide (min (toPy a).depth (toPy b).depth≤60)
noncomputable def lQ:M×D→M×D→Option (M×D):=fun a b=>if jv a.2 b.2=true then some (.fr,.bl (PyData.eqv (toPy a.2) (toPy b.2)))else none
noncomputable def fu:M×D→M×D→Option (M×D):=fun a b=>if jv a.2 b.2=true then some (.fr,.bl (!PyData.eqv (toPy a.2) (toPy b.2)))else none
theorem Fd{a b:D}(h:jv a b=true):plain a=true∧plain b=true∧oz a b=true∧min (toPy a).depth (toPy b).depth≤60:=by
 unfold jv at h
 simp only[Bool.and_eq_true,decide_eq_true_eq]at h
 exact⟨h.1.1.1,h.1.1.2,h.1.2,h.2⟩
theorem Uh:JR K (A8 K) lQ:=by
 intro H₀ O H x y a b Q m d _ _ h1 h2 h q
 unfold lQ at h
 split at h
 ·rename_i ok
  cases h
  obtain⟨p1,p2,l,dp⟩:=Fd ok
  exact⟨_,_,jm p1 h1.weak,jm p2 h2.weak,F8 l,dp,q _ H (aA.refl H) dG⟩
 ·cases h
theorem Ui:JR K (A9 K) fu:=by
 intro H₀ O H x y a b Q m d _ _ h1 h2 h q
 unfold fu at h
 split at h
 ·rename_i ok
  cases h
  obtain⟨p1,p2,l,dp⟩:=Fd ok
  exact⟨_,_,jm p1 h1.weak,jm p2 h2.weak,F8 l,dp,q _ H (aA.refl H) dG⟩
 ·cases h
theorem Uj{X:Cx}(h:X.K=K)(hu:X.A.units+64<cLine):bA X (compareOp .Eq) (A8 K):=by subst h;exact Ti hu
theorem Uk{X:Cx}(h:X.K=K)(hu:X.A.units+64<cLine):bA X (compareOp .NotEq) (A9 K):=by subst h;exact Tj hu
theorem Ul{n:Nat}{gs:gP}{fs:M→List D→Ev→Option Ev}(hs:rD K gs fs):JG K (Jv K n gs) (gL n fs):=by
 intro H₀ I O H σ env x v env' Q R hm hv e q
 obtain⟨m,d⟩:=x
 cases d<;>simp only[gL]at e<;>try (cases e;done)
 split at e
 ·rename_i hl
  obtain⟨a,xs,rfl,CD,r⟩:=hv.lst
  exact⟨a,xs,rfl,CD,by rw[r.len];exact hl,hs H₀ I O H σ env (aG m) _ xs env' Q R (by cases m<;>first|rfl|cases hm) r e q⟩
 ·cases e
noncomputable def qx:List D→Option (List Str)
 |[]=>some []
 |.str x::r=>(qx r).bind fun xs=>some (x::xs)
 |_=>none
theorem Fe{N:Addr→Prop}:∀{ds:List D}{vs:List V}{ys:List Str},aq K N H vs ds→qx ds=some ys→vs=ys.map V.str
 |_,_,_,.nil,e=>by cases e;rfl
 |d::ds,v::vs,ys,.cons h r,e=>by
  cases d<;>simp only[qx]at e<;>try (cases e;done)
  obtain⟨xs,ex,e⟩:=ao e
  cases e
  rw[Fe r ex,h.str_inv];rfl
noncomputable def qy:M×D→List (M×D)→Option (M×D)
 | (_,.str z),[(_,.lst ds)]=>(qx ds).bind fun ys=>if (ys.map (·.length)).sum+ys.length*z.length≤16777216 then some (.fr,.str (Txt.join z ys))else none
 |_,_=>none
theorem Ff{X:Cx}(h:X.K=K):yr X "str.join" (fun x xs H Q=>∃(z:Str) (p:Addr) (ys:List Str),x=.str z∧xs=[.ref p]∧bw K H p (ys.map V.str)∧(ys.map (·.length)).sum+ys.length*z.length≤16777216∧Q (.str (Txt.join z ys)) H):=by subst h;exact QF
theorem PD:CH K "str" (fun x xs H Q=>∃(z:Str) (p:Addr) (ys:List Str),x=.str z∧xs=[.ref p]∧bw K H p (ys.map V.str)∧(ys.map (·.length)).sum+ys.length*z.length≤16777216∧Q (.str (Txt.join z ys)) H) qy:=by
 intro H₀ O H x vs a ak Q m d _ _ h1 h2 h q
 unfold qy at h
 split at h
 ·obtain⟨ys,ey,h⟩:=ao h
  split at h
  ·rename_i hl
   cases h
   obtain⟨v,rfl,hv⟩:=h2.one
   obtain⟨p,xs,rfl,hs,r⟩:=hv.lst
   rw[Fe r ey]at hs
   exact⟨_,p,ys,h1.str,rfl,hs,hl,q _ H (aA.refl H) wM⟩
  ·cases h
 ·cases h
theorem Rn{X:Cx}{tg l:Expr}{tl:TE}(h:X.K=K)(hl:PE X l tl):PI X tg l (AV K tl):=by subst h;exact SK hl
theorem Mu{X:Cx}(h:X.K=K):gp X (.type "list") (fun xs H Q=>∃p ys,xs=[.ref p]∧(bw K H p ys∨bf K H p ys)∧∀l,H l=none→Q (.ref l) (upd H l (.lst ys))):=by subst h;exact Mw
end
theorem EH{fc:Ev→Option Bool}{fe:Ev→Option (M×D)}{m:M}{fr:Ev}{P:D→Prop}:∀{ds:List D},(∀d∈ds,fc (some (m,d)::fr)=some true∧∃x,fe (some (m,d)::fr)=some (.fr,x)∧P x)→∃xs:List D,fU fc fe m fr ds=some (xs.map fun x=>(M.fr,x))∧xs.length=ds.length∧∀x∈xs,P x
 |[],_=>⟨[],rfl,rfl,fun _ h=>nomatch h⟩
 |d::ds,h=>by
  obtain⟨h1,x,h2,h3⟩:=h d cL
  obtain⟨xs,q1,q2,q3⟩:=EH (ds:=ds) fun e he=>h e (cT _ he)
  refine⟨x::xs,?_,by rw[cz,cz,q2],fun y hy=>?_⟩
  ·rw[fU,h1,aB,if_pos rfl,h2,aB,q1,aB];rfl
  ·rcases fK.mp hy with rfl|hy
   ·exact h3
   ·exact q3 y hy
theorem F9{xs:List D}(h:xs.length≤1000):eY (xs.map fun x=>(M.fr,x))=some (.un,.lst xs):=by
 unfold eY
 rw[if_pos (by rw[aU];exact bQ h (by decide)),if_pos (by rw[List.all_map];exact jF.mpr fun _ _=>rfl),yg]
 congr 3
 exact List.map_id xs
theorem EI:∀ys:List Str,qx (ys.map D.str)=some ys
 |[]=>rfl
 |y::ys=>by rw[bF,qx,EI ys];rfl
theorem Fg:∀{ys:List Str},(∀y∈ys,y.length=1)→(ys.map (·.length)).sum=ys.length
 |[],_=>rfl
 |y::ys,h=>by rw[bF,List.sum_cons,Fg fun z hz=>h z (cT _ hz),h y cL,cz];omega
noncomputable abbrev Ko:=Sum Int Str
noncomputable def kD:Ko→D
 |.inl i=>.int i
 |.inr x=>.str x
theorem qi(k:Ko):(kD k).bx=true:=by cases k<;>simp only[kD,D.bx]
inductive Row where
 |rk (x s:Str) (a b:Ko)|cp (x:Str) (a:Ko)|sy (a:Ko)|go (t:Int)|pt (a:Ko) (t:Int)|en
noncomputable def Row.ds:Row→List D
 |.rk x s a b=>[.str "reckon",.str x,.str s,kD a,kD b]
 |.cp x a=>[.str "copy",.str x,kD a]
 |.sy a=>[.str "say",kD a]
 |.go t=>[.str "go",.int t]
 |.pt a t=>[.str "part",kD a,.int t]
 |.en=>[.str "end"]
noncomputable def Row.d(r:Row):D:=.tup r.ds
theorem Row.bx(r:Row):r.d.bx=true:=by cases r<;>simp only[Row.d,Row.ds,D.bx,D.bH,qi,Bool.and_self]
theorem sj:∀rs:List Row,D.bH (rs.map Row.d)=true
 |[]=>by simp only[List.map_nil,D.bH]
 |r::rs=>by simp only[List.map_cons,D.bH,Row.bx,sj rs,Bool.and_self]
theorem Fh:∀rs:List Str,D.bH (rs.map D.str)=true
 |[]=>by simp only[List.map_nil,D.bH]
 |r::rs=>by simp only[List.map_cons,D.bH,D.bx,Fh rs,Bool.and_self]
noncomputable def Row.word:Row→Str
 |.rk _ _ _ _ => "reckon"
 |.cp _ _ => "copy"
 |.sy _ => "say"
 |.go _ => "go"
 |.pt _ _ => "part"
 |.en => "end"
theorem Row.rF(r:Row):L2.aX r.ds 0=some (.str r.word):=by cases r<;>rfl
theorem PF{rs:List Row}{k:Int}(h0:0≤k)(h1:k<rs.length):L2.aX (rs.map Row.d) k=some (rs[k.toNat]'(by omega)).d:=by
 rw[i6 h0 (by simpa using h1)]
 simp
section
variable {K:PySem.W.Frag}{H H' H₀:Hp}{O:Addr→Prop}{σ:L2.St}{env:Ev}
noncomputable def Bi(j i:Str):Bool:=!(Builtin.Str.occurrences j i 0 j.length 1).isEmpty
noncomputable def oO:List D→Option (List Bool)
 |[]=>some []
 |.bl x::r=>(oO r).bind fun xs=>some (x::xs)
 |_=>none
theorem zV{N:Addr→Prop}:∀{ds:List D}{vs:List V}{ys:List Bool},aq K N H vs ds→oO ds=some ys→vs=ys.map V.bl
 |_,_,_,.nil,e=>by cases e;rfl
 |d::ds,v::vs,ys,.cons h r,e=>by
  cases d<;>simp only[oO]at e<;>try (cases e;done)
  obtain⟨xs,ex,e⟩:=ao e
  cases e
  rw[zV r ex,h.Ac];rfl
noncomputable def oP:List (M×D)→Option (M×D)
 |[(_,.lst ds)]=>(oO ds).bind fun bs=>some (.fr,.bl (bs.all id))
 |_=>none
theorem M6{X:Cx}(h:X.K=K)(hc:X.calm=true):gp X (.builtin "all") (fun xs H Q=>∃(p:Addr) (bs:List Bool),xs=[.ref p]∧bw K H p (bs.map V.bl)∧Q (.bl (bs.all id)) H):=by subst h;exact Mz hc
theorem Ro:jO K (fun xs H Q=>∃(p:Addr) (bs:List Bool),xs=[.ref p]∧bw K H p (bs.map V.bl)∧Q (.bl (bs.all id)) H) oP:=by
 intro H₀ O H vs ak Q m d _ _ hv h q
 unfold oP at h
 split at h
 ·obtain⟨bs,eb,h⟩:=ao h
  cases h
  obtain⟨v,rfl,hw⟩:=hv.one
  obtain⟨a,xs,rfl,r,s⟩:=hw.lst
  rw[zV s eb]at r
  exact⟨_,_,rfl,r,q _ H (aA.refl H) dG⟩
 ·cases h
noncomputable def sO:Ev→Option (M×D):=fun _=>some (.un,.dk [])
theorem PH:JT K GU sO:=by
 intro H₀ O H σ env Q m d R h q
 cases h
 intro p hp
 refine q _ _ (cq hp) ⟨p,rfl,hp,lC R.hd hp,ig R.od hp,[],a9,rfl,.nil⟩
theorem Um{a:Addr}{xs:List V}{ds:List D}(w:∀H:Hp,bf K H a xs)(r:∀(N:Addr→Prop) (H:Hp),aq K N H xs ds):JT K (tC (.ref a)) (jC (.tup ds)):=by
 intro H₀ O H σ env Q m d' R h q
 cases h
 exact q _ H (aA.refl H) (Rp.tup (w H) (r _ H))
theorem Ek{N:Addr→Prop}:∀(ys:List Str),aq K N H (ys.map V.str) (ys.map D.str)
 |[]=>.nil
 |y::ys=>.cons (.str y) (Ek ys)
end
theorem Rq{u:Value}{y:Str}(h:qC u=some (V.str y)):RelV (.str y) u:=by
 cases u<;>simp only[qC]at h<;>cases h
 exact⟨_,rfl⟩
theorem Fm:∀{us:List Value}{ys:List Str},us.map qC=ys.map (fun y=>some (V.str y))→Vals (ys.map V.str) us
 |[],[],_=>.nil
 |[],_::_,h=>by cases h
 |_::_,[],h=>by cases h
 |u::us,y::ys,h=>by
  rw[bF,bF]at h
  exact .cons (Rq (qX h).1) (Fm (qX h).2)
theorem Rr {K:PySem.W.Frag}{a:Addr}{its:Array Value}{n:Nat}{sl:Array (Option Value)}{ys:List Str} (l:K.lookup a=some ⟨.type "tuple",none,.seq its n,sl⟩) (v:its.toList.map qC=ys.map (fun y=>some (V.str y))) (hz:4≤ys.length∧ys.length≤1000) (H:Hp):bf K H a (ys.map V.str):=by
 have r:=Fm v
 have e:=r.length
 simp only[List.length_map,Array.length_toList]at e
 exact .inr ⟨_,its,n,l,rfl,rfl,rfl,bQ (by omega) (show 1000≤sizeLine by decide),by omega,r⟩
section
variable {K:PySem.W.Frag}{H H₀:Hp}{O:Addr→Prop}
noncomputable def uY(z:Str):List D:=z.cps.toList.map fun c=>.str ⟨#[c]⟩
theorem PJ{z:Str}:iH K H₀ O (yx z) H .fr (uY z):=by
 have l:(uY z).length=z.cps.size:=by simp[uY]
 refine⟨fun O2 H2 i s hi=>by rw[l]at hi;exact hi,fun O2 H2 i x H3 s hi y=>?_,fun O2 H2 s=>by rw[l];exact aR z.cps.size⟩
 obtain⟨rfl,c,hc,rfl⟩:=y
 refine⟨aA.refl _,.str ⟨#[c]⟩,?_,Rp.str _⟩
 unfold uY
 rw[cE,B1,hc]
 rfl
noncomputable def K5(f:Ev→Option (M×D)):Ev→Option (M×List D):=fun e=>(f e).bind fun x=>match x.2 with
 |.str z=>some (.fr,uY z)
 |_=>none
theorem Up{t:TE}{f:Ev→Option (M×D)}(h:JT K t f):JI K (Jw t) (K5 f):=by
 intro H₀ O H σ env R m ds Re e q
 obtain⟨⟨m0,d0⟩,ex,e⟩:=ao e
 cases d0<;>simp only at e<;>try (cases e;done)
 cases e
 refine h H₀ O H σ env _ _ _ Re ex fun v H1 s1 h1=>?_
 exact⟨_,h1.str,q _ H1 s1 rfl PJ⟩
end
end J
namespace L2
open PySem
end L2
namespace J
open PySem L2
theorem zW(z:Str)(c:Nat):Bi z ⟨#[c]⟩=decide (c∈z.cps.toList):=StrLaws.found_one z c
section
variable {m n:M}{z:Str}{i:Int}{b:Bool}{ds:List D}{ks:List (Key×D)}{kt:List (List Key×D)}
theorem D4:eR [(m,.str z),(n,.ty "str")]=some (.fr,.bl true):=rfl
theorem D5:eR [(m,.int i),(n,.ty "str")]=some (.fr,.bl false):=rfl
end
section
variable {K:PySem.W.Frag}
end
structure eC (X:Cx)(st:Stmt)(t:TS):Prop where
 go:PS X st t
structure iJ (X:Cx)(ss:List Stmt)(t:TS):Prop where
 go:f6 X ss t
section
variable {X:Cx}{st:Stmt}{rest a b body:List Stmt}{t u tb:TS}{e c iter tg o i value:Expr}{te td ty tv:TE}{tc:TT}{g:TG}{wi:TI}{pos pos':Pos}{k:Nat}{x:Str}
theorem Ga:iJ X [] wG:=⟨Qi⟩
theorem vJ(h1:eC X st t)(h2:iJ X rest u):iJ X (st::rest) (lN t u):=⟨OB h1.go h2.go⟩
theorem Gb(h1:eC X st t):iJ X [st] t:=⟨Qj h1.go⟩
theorem vT(he:PE X e te)(hs:swapsWith e none pos.line X.env=pure false:=by rfl):eC X (.Expr e pos) (qo te):=⟨Qk he hs⟩
theorem Ai(he:PE X e te):eC X (.Return (some e) pos) (tO te):=⟨Sy he⟩
theorem IC(hc:PT X c tc)(ha:iJ X a t)(hb:iJ X b u):eC X (.If c a b pos) (xn tc t u):=⟨U8 hc ha.go hb.go⟩
theorem Hl(he:PE X e te)(hg:PG X tg g)(hs:swapsWithSole [tg] e pos.line X.env=pure false:=by rfl)(hw:swappedStores [tg] e X.env=pure none:=by rfl)
 (h1:(assignEach [tg] X.env).map (·.2)=[assign tg X.env]:=by rfl):eC X (.Assign [tg] e pos) (gK te g):=⟨SF he hg hs hw h1⟩
theorem Uq{i:Nat}(hN:X.N.Nodup)(hi:X.N[i]?=some x)(hx:Loc X.env.scope x)(he:PE X e te)(hs:swapsWith e (some (.Name x pos')) pos.line X.env=pure false:=by rfl)(hf:X.fn x=true∨X.env.scope.names.lookup x=some .local:=by first|exact .inl rfl|exact .inr rfl|assumption) :
 eC X (.Assign [.Name x pos'] e pos) (gK te (g0 i)):=⟨SJ hN hi hx he hs hf⟩
theorem PK(hp:PassesOwn (model X.prog X.w) X.A X.env X.xe)(hc:PT X c tc)(hb:iJ X body tb):eC X (.While c body [] pos) (z9 tc tb):=⟨OG hp hc hb.go⟩
theorem Aj(hp:PassesOwn (model X.prog X.w) X.A X.env X.xe)(hc:X.calm=true)(hi:PI X tg iter wi)(hg:PG X tg g)(hb:iJ X body tb)
 (hs:∀x,foldedSetIterable iter X.env x=pure x:=by intro _;rfl):eC X (.For tg iter body [] pos) (km wi g tb):=⟨SM hp hc hi hg hb.go hs⟩
theorem Gd(hu:X.A.units+1<cLine)(ho:PE X o td)(hi:PE X i ty)(hv:PE X value tv)(hs:swapsWith value (some (.Subscript o i pos')) pos.line X.env=pure false) :
 eC X (.Assign [.Subscript o i pos'] value pos) (wJ td ty tv):=⟨Qz hu ho hi hv hs⟩
theorem El{N':List Str}{au:Scope}{ix:List Nat}{elt:Expr}{ifs:List Expr}{px:Pos}{i:Nat}{y:Str}{py tV:Pos}(hN:X.N.Nodup)(Cu:X.N[i]?=some y)(hy:X.env.scope.names.lookup y=some .local)(ok:j4 X.N N' X.env.scope au x ix)(hc:X.calm=true)(hi:PI X (.Name x px) iter wi)(fN:∀C s₂ H₂ fp pn,mj (X.bU N' au C s₂ H₂ fp pn) ifs tc)
 (k5:∀C s₂ H₂ fp pn,PE (X.bU N' au C s₂ H₂ fp pn) elt te) (Cv:swapsWith (.ListComp elt [⟨.Name x px,iter,ifs,0⟩] au pos) (some (.Name y py)) tV.line X.env=pure true:=by rfl)
 (hs:∀x,foldedSetIterable iter X.env x=pure x:=by intro _;rfl):eC X (.Assign [.Name y py] (.ListComp elt [⟨.Name x px,iter,ifs,0⟩] au pos) tV) (gK (qq wi ix tc te) (g0 i)):=⟨MZ hN Cu hy ok hc hi fN k5 Cv hs⟩
end
noncomputable def keyOf:D→Option Key
 |.int i=>some (.inl i)
 |.str x=>some (.inr x)
 |.non=>some .non
 |_=>none
noncomputable def bZ{κ:Type}[DecidableEq κ](ks:List (κ×D))(k:κ):Option D:=(ks.find? fun kv=>decide (kv.1=k)).map (·.2)
noncomputable def putD{κ:Type}[DecidableEq κ](ks:List (κ×D))(k:κ)(d:D):List (κ×D) :=
 if (ks.any fun kv=>decide (kv.1=k))=true then ks.map (fun kv=>if kv.1=k then (kv.1,d)else kv)else ks++[(k,d)]
section
variable {K:PySem.W.Frag}{H H' H₀:Hp}{I:Nat→Option Addr}{O:Addr→Prop}{σ:L2.St}{env:Ev}
theorem lB{N:Addr→Prop}{d:D}{k:Key}{v:V}(e:keyOf d=some k)(h:Rp K N H v d):v=kV k:=by
 cases d<;>simp only[keyOf]at e<;>cases e
 ·exact h.F2
 ·exact h.int_inv
 ·exact h.str_inv
def Ent{κ:Type}(K:PySem.W.Frag)(N:Addr→Prop)(H:Hp)(kvs:List (κ×V))(ks:List (κ×D)):Prop:=kvs.map (·.1)=ks.map (·.1)∧aq K N H (kvs.map (·.2)) (ks.map (·.2))
theorem Ent.cons_inv{κ:Type}{N:Addr→Prop}{p:κ×V}{kvs:List (κ×V)}{q:κ×D}{ks:List (κ×D)}(h:Ent K N H (p::kvs) (q::ks)):p.1=q.1∧Rp K N H p.2 q.2∧Ent K N H kvs ks:=by
 obtain⟨e,r⟩:=h
 rw[bF,bF]at e r
 obtain⟨e1,e2⟩:=qX e
 cases r with|cons a b=>exact⟨e1,a,e2,b⟩
theorem Ent.len{κ:Type}{N:Addr→Prop}{kvs:List (κ×V)}{ks:List (κ×D)}(h:Ent K N H kvs ks):kvs.length=ks.length:=by
 have:=cP List.length h.1
 simpa using this
theorem Ent.val{κ:Type}[DecidableEq κ]{N:Addr→Prop}:∀{kvs:List (κ×V)}{ks:List (κ×D)} (k:κ),Ent K N H kvs ks→(bZ ks k=none∧dH kvs k=none)∨∃d v,bZ ks k=some d∧dH kvs k=some v∧Rp K N H v d
 |[],[],k,_=>.inl ⟨rfl,rfl⟩
 |[],_::_,k,h=>absurd h.len (by simp)
 |_::_,[],k,h=>absurd h.len (by simp)
 |p::kvs,q::ks,k,h=>by
  obtain⟨e,r,t⟩:=h.cons_inv
  by_cases z:q.1=k
  ·exact .inr ⟨q.2,p.2,by simp[bZ,List.find?_cons,z],vG (e.trans z),r⟩
  ·have e1:bZ (q::ks) k=bZ ks k:=by simp[bZ,List.find?_cons,z]
   rw[e1,vH (fun w=>z (e.symm.trans w))]
   exact Ent.val k t
theorem Ent.put{κ:Type}[DecidableEq κ]{N:Addr→Prop}{kvs:List (κ×V)}{ks:List (κ×D)}{k:κ}{v:V}{d:D}(h:Ent K N H kvs ks)(hv:Rp K N H v d):Ent K N H (putK kvs k v) (putD ks k d):=by
 have ha:(kvs.any fun kv=>decide (kv.1=k))=(ks.any fun kv=>decide (kv.1=k)):=by
  have:∀{α β:Type} (l:List (α×β)) (f:α→Bool),l.any (fun kv=>f kv.1)=(l.map (·.1)).any f:=fun l f=>by rw[List.any_map];rfl
  rw[this kvs fun a=>decide (a=k),this ks fun a=>decide (a=k),h.1]
 unfold putK putD
 rw[ha]
 split
 ·have go:∀{kvs:List (κ×V)}{ks:List (κ×D)},Ent K N H kvs ks→Ent K N H (kvs.map fun kv=>if kv.1=k then (kv.1,v)else kv) (ks.map fun kv=>if kv.1=k then (kv.1,d)else kv):=by
   intro kvs
   induction kvs with
   |nil=>intro ks h;cases ks with
    |nil=>exact⟨rfl,.nil⟩
    |cons _ _=>exact absurd h.len (by simp)
   |cons p kvs ih =>
    intro ks h
    cases ks with
    |nil=>exact absurd h.len (by simp)
    |cons q ks =>
     obtain⟨e,r,t⟩:=h.cons_inv
     obtain⟨i1,i2⟩:=ih t
     rw[bF,bF]
     by_cases z:q.1=k
     ·rw[if_pos z,if_pos (e.trans z)]
      exact⟨by rw[bF,bF,i1,e],.cons hv i2⟩
     ·rw[if_neg z,if_neg (fun w=>z (e.symm.trans w))]
      exact⟨by rw[bF,bF,i1,e],.cons r i2⟩
  exact go h
 ·exact⟨by rw[dh,dh,h.1];rfl,by rw[dh,dh];exact h.2.app (.cons hv .nil)⟩
theorem Val.dk{m:M}{ks:List (Key×D)}{v:V}{Hb:Hp}(h:Val K H₀ O Hb H m (.dk ks) v):∃a kvs,v=.ref a∧Rd H a (.dK kvs)∧Ent K (NM H₀ O (aG m)) H kvs ks:=by
 cases m<;>simp only[Val,Cell]at h
 ·cases h with|dk r n e q=>exact⟨_,_,rfl,r,e,q⟩
 ·cases h with|dk r n e q=>exact⟨_,_,rfl,r,e,q⟩
 ·obtain⟨p,rfl,_,_,_,xs,q,e,r⟩:=h;exact⟨_,_,rfl,.inl q,e,r.wk fun a h _=>h.1⟩
 ·obtain⟨p,rfl,_,_,xs,q,e,r⟩:=h;exact⟨_,_,rfl,.inl q,e,r⟩
 ·obtain⟨p,rfl,_,xs,q,e,r⟩:=h;exact⟨_,_,rfl,.inl q,e,r⟩
 ·cases h with|dk r n e q=>exact⟨_,_,rfl,r,e,q⟩
 ·obtain⟨p,qs,aJ,rfl,e2,_⟩:=h;cases e2
 ·obtain⟨_,_,_,_,e2,_⟩:=h;cases e2
noncomputable def kC:D→Option (List (Key×D))
 |.dk ks=>some ks
 |_=>none
theorem vU{d:D}{ks:List (Key×D)}(h:kC d=some ks):d=.dk ks:=by cases d<;>simp only[kC]at h<;>cases h;rfl
noncomputable def iA(fd fk:Ev→Option (M×D)):Ev→Option (M×D):=fun e=>(fd e).bind fun x=>(fk e).bind fun y=>(kC x.2).bind fun ks=>(keyOf y.2).bind fun k=>(bZ ks k).bind fun d=>some (aG x.1,d)
theorem Rt{td ty:TE}{fd fk:Ev→Option (M×D)}(hd:JT K td fd)(hk:JT K ty fk):JT K (Ic td ty) (iA fd fk):=by
 intro H₀ O H σ env Q m d R h q
 obtain⟨x,ex,h⟩:=ao h
 obtain⟨y,ey,h⟩:=ao h
 obtain⟨ks,iW,h⟩:=ao h
 obtain⟨k,ek,h⟩:=ao h
 obtain⟨d',ed,h⟩:=ao h
 cases h
 refine hd H₀ O H σ env _ x.1 x.2 R ex fun v H1 s1 h1=>?_
 refine hk H₀ O H1 σ env _ y.1 y.2 (R.keep s1) ey fun w H2 s2 h2=>?_
 rw[vU iW]at h1
 obtain⟨a,kvs,rfl,rd,en⟩:=(h1.keep s2).dk
 obtain rfl:=lB ek h2.weak
 rcases en.val k with⟨z,_⟩|⟨d2,v2,z1,z2,r⟩
 ·rw[z]at ed;cases ed
 ·rw[z1]at ed;cases ed
  exact⟨a,v2,rfl,.inl ⟨kvs,k,rd,rfl,z2.symm⟩,q v2 H2 (s1.trans s2) (Val.el r)⟩
noncomputable def Bj(neg:Bool)(fk fd:Ev→Option (M×D)):Ev→Option (M×D):=fun e=>(fk e).bind fun y=>(fd e).bind fun x=>(kC x.2).bind fun ks=>(keyOf y.2).bind fun k=>some (.fr,.bl (if neg then !(bZ ks k).isSome else (bZ ks k).isSome))
theorem Ent.isSome{κ:Type}[DecidableEq κ]{N:Addr→Prop}{kvs:List (κ×V)}{ks:List (κ×D)}{k:κ}(h:Ent K N H kvs ks):(dH kvs k).isSome=(bZ ks k).isSome:=by
 rcases h.val k with⟨a,b⟩|⟨d,v,a,b,_⟩<;>rw[a,b]<;>rfl
theorem Ur{td ty:TE}{fd fk:Ev→Option (M×D)}(hk:JT K ty fk)(hd:JT K td fd):JT K (A2 ty td) (Bj false fk fd):=by
 intro H₀ O H σ env Q m d R h q
 obtain⟨y,ey,h⟩:=ao h
 obtain⟨x,ex,h⟩:=ao h
 obtain⟨ks,iW,h⟩:=ao h
 obtain⟨k,ek,h⟩:=ao h
 cases h
 refine hk H₀ O H σ env _ y.1 y.2 R ey fun w H1 s1 h1=>?_
 refine hd H₀ O H1 σ env _ x.1 x.2 (R.keep s1) ex fun v H2 s2 h2=>?_
 rw[vU iW]at h2
 obtain⟨a,kvs,rfl,rd,en⟩:=h2.dk
 obtain rfl:=lB ek h1.weak
 refine⟨a,dH kvs k,rfl,.inl ⟨kvs,k,rd,rfl,rfl⟩,?_⟩
 rw[en.isSome]
 exact q _ H2 (s1.trans s2) dG
theorem N1{td ty:TE}{fd fk:Ev→Option (M×D)}(hk:JT K ty fk)(hd:JT K td fd):JT K (zP ty td) (Bj true fk fd):=by
 intro H₀ O H σ env Q m d R h q
 obtain⟨y,ey,h⟩:=ao h
 obtain⟨x,ex,h⟩:=ao h
 obtain⟨ks,iW,h⟩:=ao h
 obtain⟨k,ek,h⟩:=ao h
 cases h
 refine hk H₀ O H σ env _ y.1 y.2 R ey fun w H1 s1 h1=>?_
 refine hd H₀ O H1 σ env _ x.1 x.2 (R.keep s1) ex fun v H2 s2 h2=>?_
 rw[vU iW]at h2
 obtain⟨a,kvs,rfl,rd,en⟩:=h2.dk
 obtain rfl:=lB ek h1.weak
 refine⟨a,dH kvs k,rfl,.inl ⟨kvs,k,rd,rfl,rfl⟩,?_⟩
 rw[en.isSome]
 exact q _ H2 (s1.trans s2) dG
noncomputable def jw(i:Nat)(e:Ev):Option (M×List (Key×D)):=match e[i]? with
 |some (some (m,.dk ds))=>if own m=true then some (m,ds)else none
 |_=>none
theorem Ge{i:Nat}{e:Ev}{m:M}{ds:List (Key×D)}(h:jw i e=some (m,ds)):e[i]?=some (some (m,.dk ds))∧own m=true:=by
 unfold jw at h
 split at h
 ·rename_i e
  split at h
  ·cases h;exact⟨e,by assumption⟩
  ·cases h
 ·cases h
theorem Rel.dct{i:Nat}{m:M}{ds:List (Key×D)}(R:Rel K H₀ I O H σ env)(h:jw i env=some (m,ds)):∃p kvs,σ[i]?=some (some (.ref p))∧O p∧H p=some (.dK kvs)∧Ent K (fun a=>¬O a∧H₀ a=none) H kvs ds:=by
 obtain⟨e,o⟩:=Ge h
 obtain⟨v,hv,n,hm⟩:=R.e.at e
 cases m<;>simp only[own]at o<;>try (cases o;done)
 ·obtain⟨p,rfl,h1,h2,xs,c,z,r⟩:=hm;exact⟨p,xs,hv,h1,c,z,r⟩
 ·obtain⟨p,rfl,h1,xs,c,z,r⟩:=hm;exact⟨p,xs,hv,h1,c,z,r⟩
theorem Rel.WU{i:Nat}{m:M}{ds:List (Key×D)}{p:Addr}{xs ys:List (Key×V)}{es:List (Key×D)}(R:Rel K H₀ I O H σ env)(h:jw i env=some (m,ds))(hp:σ[i]?=some (some (.ref p)))(hx:H p=some (.dK xs))(r:Ent K (fun a=>¬O a∧H₀ a=none) H ys es) :
  Rel K H₀ I O (L2.upd H p (.dK ys)) σ (env.set i (some (m,.dk es)))∧aF O H O (L2.upd H p (.dK ys)):=by
 obtain⟨e,o⟩:=Ge h
 have hO:=(R.qd e o hp).1
 exact R.mut e o hp ⟨ys,a9,r.1,r.2.upd hO hx (fun z=>z)⟩
noncomputable def fH(i:Nat)(fk fe:Ev→Option (M×D)):Ev→Option Fl:=fun e=>(fe e).bind fun x=>(fk e).bind fun y=>(keyOf y.2).bind fun k=>if bM x.1 x.2=true then (jw i e).bind fun z=>if z.2.length<sizeLine then some (.nx (e.set i (some (z.1,.dk (putD z.2 k x.2)))))else none else none
theorem Ru{i:Nat}{t tk:TE}{f fk:Ev→Option (M×D)}(h:JT K t f)(hk:JT K tk fk):JS K (wJ (gq i) tk t) (fH i fk f):=by
 intro H₀ I O H σ env Ds fl R e q
 obtain⟨x,ex,e⟩:=ao e
 obtain⟨y,ey,e⟩:=ao e
 obtain⟨k,ek,e⟩:=ao e
 split at e
 ·rename_i hs
  obtain⟨⟨m,ds⟩,ez,e⟩:=ao e
  split at e
  ·rename_i hl
   cases e
   obtain⟨p,kvs,hp,hO,hx,r⟩:=R.dct ez
   refine h H₀ O H σ env _ x.1 x.2 R.e ex fun v H1 s1 h1=>?_
   refine⟨.ref p,hp,?_⟩
   refine hk H₀ O H1 σ env _ y.1 y.2 (R.keep s1).e ey fun w H2 s2 h2=>?_
   obtain rfl:=lB ek h2.weak
   have s:=s1.trans s2
   refine⟨p,_,rfl,.inl ⟨kvs,k,s _ _ hx,rfl,by rw[r.len];exact hl,rfl⟩,?_⟩
   obtain⟨R2,st⟩:=(R.keep s).WU (ys:=putK kvs k v) (es:=putD ds k x.2) ez hp (s _ _ hx) (Ent.put ⟨r.1,r.2.keep (.same s)⟩ ((h1.keep s2).bM hs))
   exact q O _ σ R2 ((aF.same s).trans st)
  ·cases e
 ·cases e
end
section
variable {K:PySem.W.Frag}{H H' H₀:Hp}{I:Nat→Option Addr}{O:Addr→Prop}{σ:L2.St}{env:Ev}
theorem Rel.Us{i:Nat}{C:Addr}{qs:List Addr}{aJ:List (List D)}{H1:Hp}(R:Rel K H₀ I O H σ env)(s:aA H H1)(nn:∀(j:Nat) d,j≠i→env[j]?≠some (some (.nb,d)))(hC:H C=none)(hq:∀q∈qs,H q=none∧q≠C)(nd:qs.Nodup)
  (e:H1 C=some (.lst (qs.map V.ref))) (hp:Paired (fun q ds=>∃xs,H1 q=some (.lst xs)∧aq K (fun a=>¬(O a∨a=C∨a∈qs)∧H₀ a=none) H1 xs ds) qs aJ) :
  Rel K H₀ I (fun a=>O a∨a=C∨a∈qs) H1 (σ.set i (some (.ref C))) (env.set i (some (.nb,.lst (aJ.map D.lst))))∧aF O H (fun a=>O a∨a=C∨a∈qs) H1:=by
 have np:∀a,(∃o,H a=some o)→¬(a=C∨a∈qs):=fun a ⟨o,ea⟩ z=>by
  rcases z with rfl|z
  ·rw[hC]at ea;cases ea
  ·rw[(hq a z).1]at ea;cases ea
 have n0:∀a,(a=C∨a∈qs)→H₀ a=none:=fun a z=>by
  cases h0:H₀ a with
  |none=>rfl
  |some o=>exact absurd z (np a (R.e.hd a o h0))
 have nO:∀a,(a=C∨a∈qs)→¬O a:=fun a z ho=>np a (R.e.od a ho) z
 have wk:∀{N:Addr→Prop}{d:D}{v:V},Rp K N H v d→Rp K (fun a=>N a∧¬(a=C∨a∈qs)) H1 v d:=fun r=>(r.wk fun a n e=>⟨n,np a e⟩).keep (.same s)
 have uS:∀{N:Addr→Prop}{d:D}{q:Addr},Cell K N H q d→Cell K (fun a=>N a∧¬(a=C∨a∈qs)) H1 q d:=fun {N d q} r=>by
  obtain⟨o,e,_⟩:=r.some
  exact(r.wk fun a n e=>⟨n,np a e⟩).keep (.same s) ((s _ _ e).trans e.symm)
 have bB:∀{j:Nat}{d:D},(env.set i (some (M.nb,D.lst (aJ.map D.lst))))[j]?=some (some (.nb,d))→j=i:=fun {j d} h=>by
  rcases get_set h with⟨z,_⟩|⟨z,q⟩
  ·exact z
  ·exact absurd q (nn j d z)
 have K6:∀a,(a=C∨a∈qs)→∃o,H1 a=some o∧¬fP o:=fun a z=>by
  rcases z with rfl|z
  ·exact⟨_,e,fun z=>z⟩
  ·obtain⟨ds,xs,hx,_⟩:=zE hp z
   exact⟨_,hx,fun z=>z⟩
 refine⟨⟨⟨jX ?_ ?_,?_,?_,?_⟩,?_,?_,?_,?_,?_⟩,?_⟩
 ·rw[hG,hG];exact cJ R.e.sl
 ·intro j y x hy hx m d ey
  subst ey
  rcases get_set hy with⟨rfl,z⟩|⟨nj,q⟩
  ·cases z
   rcases get_set hx with⟨_,z⟩|⟨z,_⟩
   ·subst z
    exact⟨rfl,_,rfl,C,qs,aJ,rfl,rfl,.inr (.inl rfl),n0 C (.inl rfl),e,nd,fun q hm=>⟨.inr (.inr hm),n0 q (.inr hm),(hq q hm).2⟩,hp⟩
   ·exact absurd rfl z
  ·rw[cU (fun z=>nj z.symm)]at hx
   obtain⟨v,hv,n,z⟩:=R.e.at q
   rw[hx]at hv;cases hv
   refine⟨n,v,rfl,?_⟩
   cases m
   ·exact(wk z).wk fun a h _=>fun z=>z.elim h.1 h.2
   ·exact(wk z).wk fun a h _=>⟨fun z=>z.elim h.1.1 h.2,h.1.2⟩
   ·cases n
   ·obtain⟨q,rfl,h1,h2,c'⟩:=z
    exact⟨q,rfl,.inl h1,h2,(uS c').wk fun a h _=>⟨fun z=>z.elim h.1.1 h.2,h.1.2⟩⟩
   ·obtain⟨q,rfl,h1,c'⟩:=z
    exact⟨q,rfl,.inl h1,(uS c').wk fun a h _=>⟨fun z=>z.elim h.1.1 h.2,h.1.2⟩⟩
   ·cases n
   ·exact absurd q (nn j d nj)
   ·cases n
 ·intro a ha
  rcases ha with ha|ha
  ·obtain⟨o,e⟩:=R.e.od a ha;exact⟨o,s _ _ e⟩
  ·obtain⟨o,eo,_⟩:=K6 a ha;exact⟨o,eo⟩
 ·exact fun a o h=>let ⟨o,e⟩:=R.e.hd a o h;⟨o,s _ _ e⟩
 ·intro a u ha eu
  rcases ha with ha|ha
  ·exact(R.e.keep s).on a u ha eu
  ·obtain⟨o,eo,nt⟩:=K6 a ha
   rw[eu]at eo;cases eo;exact nt
 ·exact fun a o n h=>s _ _ (R.fr a o n h)
 ·intro a ha
  rcases ha with ha|ha
  ·exact R.ow a ha
  ·exact .inr (n0 a ha)
 ·intro i' d' p' h1 p1
  rcases get_set h1 with⟨rfl,q⟩|⟨n1,q1⟩
  ·cases q
  ·rw[cU (fun z=>n1 z.symm)]at p1
   exact R.ba i' d' p' q1 p1
 ·intro i' j x y q h1 h2 o1 o2 p1 p2
  rcases get_set h1 with⟨rfl,q1⟩|⟨n1,q1⟩
  ·cases q1;cases o1
  ·rcases get_set h2 with⟨rfl,q2⟩|⟨n2,q2⟩
   ·cases q2;cases o2
   ·rw[cU (fun z=>n1 z.symm)]at p1
    rw[cU (fun z=>n2 z.symm)]at p2
    exact R.dj i' j x y q q1 q2 o1 o2 p1 p2
 ·refine⟨fun i' j d1 d2 h1 h2=>(bB h1).trans (bB h2).symm,fun i' j d1 x p' q xs h1 p1 h2 o2 p2 ex=>?_⟩
  have hi:=bB h1
  subst hi
  have uZ:p'=C:=by
   rcases get_set p1 with⟨_,z⟩|⟨z,_⟩
   ·cases z;rfl
   ·exact absurd rfl z
  subst uZ
  rw[e]at ex;cases ex
  rcases get_set h2 with⟨rfl,z⟩|⟨n2,q2⟩
  ·cases z;cases o2
  ·rw[cU (fun z=>n2 z.symm)]at p2
   have hO:=(R.qd q2 o2 p2).1
   refine⟨fun z=>nO q (.inl z) hO,fun z=>?_⟩
   obtain⟨a,ha,ea⟩:=de.mp z
   exact nO q (.inr (by cases ea;exact ha)) hO
 ·intro a o h n
  exact⟨s a o h,fun z=>z.elim n (np a ⟨o,h⟩)⟩
noncomputable def JF(i:Nat)(e:Ev):Bool:=(List.range e.length).all fun j=>decide (j=i)||(match e[j]? with
 |some (some (.nb,_))=>false
 |_=>true)
theorem Rv{i:Nat}{e:Ev}(h:JF i e=true)(j:Nat)(d:D)(hj:j≠i):e[j]?≠some (some (.nb,d)):=fun z=>by
 have hl:j<e.length:=(bt.mp z).1
 have:=jF.mp h j (ug.mpr hl)
 rw[z,fJ hj]at this
 cases this
noncomputable def IE(i:Nat)(it:Ev→Option (M×List D)):Ev→Option Fl:=fun e=>(it e).bind fun y=>if JF i e=true∧y.2.length<sizeLine then some (.nx (e.set i (some (.nb,.lst ((y.2.map fun _=>([]:List D)).map D.lst)))))else none
theorem Rx{i:Nat}{wi:TI}{ix:List Nat}{it:Ev→Option (M×List D)}(hi:JI K wi it):JS K (gK (qq wi ix xx (xt kr)) (g0 i)) (IE i it):=by
 intro H₀ I O H σ env Ds fl R e q
 obtain⟨⟨mi,ds⟩,ei,e⟩:=ao e
 split at e
 ·rename_i hc
  obtain⟨hn,hl⟩:=hc
  cases e
  refine hi H₀ O H σ env _ mi ds R.e ei fun J H1 s1 hm ok C hC=>?_
  refine⟨fun k n H2=>n=ds.length-k∧k≤ds.length∧aA H1 H2∧∃qs:List Addr,H2 C=some (.lst (qs.map V.ref))∧qs.length=k∧qs.Nodup∧∀q∈qs,H1 q=none∧q≠C∧H2 q=some (.lst []),⟨_,rfl,oW _,cq hC,[],a9,rfl,List.nodup_nil,fun _ h=>nomatch h⟩,?_⟩
  rintro k n H2 ⟨rfl,hle,s2,qs,K7,CQ,K8,u5⟩
  have eV:aF O H1 O H2:=aF.same s2
  by_cases aT:k<ds.length
  ·refine .inr ⟨ok.go O H2 k eV aT,fun x H3 y=>?_⟩
   obtain⟨s3,_⟩:=ok.hX O H2 k x H3 eV aT y
   refine My.WL (σ:=some x::eZ σ ix) (H:=H3) (A:=fun H3=>xt kr (some x::eZ σ ix) H3 _) (B:=fun H3=>_) ?_
   refine⟨oW _,fun p hp=>?_⟩
   have c3:H3 C=some (.lst (qs.map V.ref)):=s3 _ _ K7
   have uZ:C≠p:=eD c3 hp
   have X2:p∉qs:=fun z=>by rw[s3 _ _ (u5 p z).2.2]at hp;cases hp
   refine⟨qs.map V.ref,by rw[ay uZ];exact c3,by rw[aU,CQ];exact Nat.lt_trans aT hl,ds.length-(k+1),by omega,rfl,aT,fun a o ha=>?_,qs++[p],?_,by rw[b9,CQ];rfl,?_,fun a ha=>?_⟩
   ·rw[ay (eD ha hC)]
    have h3:=s3 _ _ (s2 _ _ ha)
    rw[ay (eD h3 hp)];exact h3
   ·rw[a9,dh];rfl
   ·rw[yh]
    refine⟨K8,by simp,fun a ha b hb=>?_⟩
    have:b=p:=by simpa using hb
    subst this
    exact fun z=>X2 (z▸ha)
   ·rcases fX.mp ha with ha|ha
    ·obtain⟨z1,z2,z3⟩:=u5 a ha
     refine⟨z1,z2,?_⟩
     have h3:=s3 _ _ z3
     rw[ay z2,ay (eD h3 hp)];exact h3
    ·have:a=p:=by simpa using ha
     subst this
     have X3:H1 a=none:=by
      cases h1:H1 a with
      |none=>rfl
      |some o=>rw[s3 _ _ (s2 _ _ h1)]at hp;cases hp
     exact⟨X3,fun z=>uZ z.symm,by rw[ay (fun z=>uZ z.symm),a9]⟩
  ·have hk:k=ds.length:=by omega
   subst hk
   refine .inl ⟨ok.stop O H2 eV,?_⟩
   have pr:∀(qs:List Addr) (ds:List D) (N:Addr→Prop),qs.length=ds.length→(∀q∈qs,H2 q=some (.lst []))→Paired (fun q (es:List D)=>∃xs,H2 q=some (.lst xs)∧aq K N H2 xs es) qs (ds.map fun _=>([]:List D)):=by
    intro qs
    induction qs with
    |nil=>intro ds N h _;cases ds with
     |nil=>exact .nil
     |cons _ _=>cases h
    |cons a qs ih=>intro ds N h hh;cases ds with
     |nil=>cases h
     |cons d ds=>exact .cons ⟨[],hh a cL,.nil⟩ (ih ds N (by simpa using h) fun q hq=>hh q (cT _ hq))
   obtain⟨R',st⟩:=(R.keep s1).Us (i:=i) (C:=C) (qs:=qs) (aJ:=ds.map fun _=>[]) s2 (fun j d hj=>Rv hn j d hj) hC (fun a ha=>⟨(u5 a ha).1,(u5 a ha).2.1⟩) K8 K7 (pr qs ds _ CQ fun a ha=>(u5 a ha).2.2)
   exact q _ H2 _ R' ((aF.same s1).trans st)
 ·cases e
noncomputable def xG:List D→Option (List (List D))
 |[]=>some []
 |.lst d::r=>(xG r).bind fun x=>some (d::x)
 |_=>none
theorem Gf:∀{ds:List D}{aJ:List (List D)},xG ds=some aJ→ds=aJ.map D.lst
 |[],_,h=>by cases h;rfl
 |d::r,aJ,h=>by
  cases d<;>simp only[xG]at h<;>try (cases h;done)
  obtain⟨x,ex,h⟩:=ao h
  cases h
  rw[Gf ex,bF]
noncomputable def CT(i:Nat)(e:Ev):Option (List (List D)):=match e[i]? with
 |some (some (.nb,.lst ds))=>xG ds
 |_=>none
theorem Ut{i:Nat}{e:Ev}{aJ:List (List D)}(h:CT i e=some aJ):e[i]?=some (some (.nb,.lst (aJ.map D.lst))):=by
 unfold CT at h
 split at h
 ·rename_i e
  rw[e,Gf h]
 ·cases h
theorem D6:∀{a b:List (List D)},a.map D.lst=b.map D.lst→a=b
 |[],[],_=>rfl
 |[],_::_,h=>by cases h
 |_::_,[],h=>by cases h
 |x::a,y::b,h=>by
  rw[bF,bF]at h
  obtain⟨h1,h2⟩:=qX h
  rw[D.lst.inj h1,D6 h2]
theorem EJ{F:Addr→List D→Prop}:∀{qs:List Addr}{aJ:List (List D)}{j:Nat}{ds:List D},Paired F qs aJ→aJ[j]?=some ds→∃q,qs[j]?=some q∧F q ds
 |_,_,_,_,.nil,h=>by simp at h
 |_,_,0,_,.cons a t,h=>by simp at h;subst h;exact⟨_,rfl,a⟩
 |_,_,j+1,ds,.cons a t,h=>by
  obtain⟨q,h1,h2⟩:=EJ (j:=j) (ds:=ds) t (by simpa using h)
  exact⟨q,by simpa using h1,h2⟩
theorem EK{F G:Addr→List D→Prop}{es:List D}:∀{qs:List Addr}{aJ:List (List D)}{j:Nat}{q:Addr},qs.Nodup→Paired F qs aJ→qs[j]?=some q→G q es→(∀a ds,a∈qs→a≠q→F a ds→G a ds)→Paired G qs (aJ.set j es)
 |_,_,_,_,_,.nil,h,_,_=>by simp at h
 |a::qs,ds::aJ,0,q,hn,.cons x t,h,g,w=>by
  simp at h;subst h
  rw[iQ]at hn
  exact .cons g (jf (fun b es hb hf=>w b es (cT _ hb) (fun z=>hn.1 (z▸hb)) hf) t)
 |a::qs,ds::aJ,j+1,q,hn,.cons x t,h,g,w=>by
  rw[iQ]at hn
  have h':qs[j]?=some q:=by simpa using h
  have hq:q∈qs:=fB h'
  exact .cons (w a ds cL (fun z=>hn.1 (z▸hq)) x) (EK hn.2 t h' g fun b es hb=>w b es (cT _ hb))
theorem Rel.WV{i:Nat}{aJ:List (List D)}{p q:Addr}{qs:List Addr}{j:Nat}{xs ys:List V}{es:List D}(R:Rel K H₀ I O H σ env)(hx:env[i]?=some (some (.nb,.lst (aJ.map D.lst))))(hp:σ[i]?=some (some (.ref p)))
  (h1:O p) (h2:H₀ p=none) (h3:H p=some (.lst (qs.map V.ref))) (h4:qs.Nodup) (h5:∀q∈qs,O q∧H₀ q=none∧q≠p) (h6:Paired (fun q ds=>∃xs,H q=some (.lst xs)∧aq K (fun a=>¬O a∧H₀ a=none) H xs ds) qs aJ)
  (hq:qs[j]?=some q) (eq:H q=some (.lst xs)) (r:aq K (fun a=>¬O a∧H₀ a=none) H ys es) :
  Rel K H₀ I O (upd H q (.lst ys)) σ (env.set i (some (.nb,.lst ((aJ.set j es).map D.lst))))∧aF O H O (upd H q (.lst ys)):=by
 have K9:q∈qs:=fB hq
 obtain⟨qO,q0,qp⟩:=h5 q K9
 have kp:∀{N:Addr→Prop},(∀a,N a→¬O a)→Keeps N H (upd H q (.lst ys)):=fun w a u h z=>by
  have gk:a≠q:=by
   rintro rfl
   rcases z with z|z
   ·exact w _ z qO
   ·rw[eq]at h;cases h;exact z
  rw[ay gk];exact h
 have hi:i<env.length:=(bt.mp hx).1
 have JH:∀{k:Nat}{x:M×D}{p':Addr},env[k]?=some (some x)→own x.1=true→σ[k]?=some (some (.ref p'))→p'≠q:=fun {k x p'} a b c z=>by
  obtain⟨_,z2⟩:=R.nd.2 i k _ x p p' _ hx hp a b c h3
  exact z2 (de.mpr ⟨q,K9,by rw[z]⟩)
 have CV:∀{k:Nat}{d1:D},(env.set i (some (M.nb,D.lst ((aJ.set j es).map D.lst))))[k]?=some (some (.nb,d1))→k=i:=fun {k d1} h=>by
  rcases get_set h with⟨z,_⟩|⟨_,z⟩
  ·exact z
  ·exact R.nd.1 k i d1 _ z hx
 refine⟨⟨⟨jX ?_ ?_,?_,?_,?_⟩,?_,R.ow,?_,?_,?_⟩,?_⟩
 ·rw[hG];exact cJ R.e.sl
 ·intro k y x hy u6 m d ey
  subst ey
  rcases get_set hy with⟨rfl,z⟩|⟨nk,z⟩
  ·cases z
   rw[hp]at u6;cases u6
   refine⟨rfl,_,rfl,p,qs,aJ.set j es,rfl,rfl,h1,h2,by rw[ay (fun z=>qp z.symm)];exact h3,h4,h5,EK h4 h6 hq ⟨ys,a9,r.keep (kp fun a h=>h.1)⟩ fun a ds ha gk ⟨zs,e1,e2⟩=>⟨zs,by rw[ay gk];exact e1,e2.keep (kp fun a h=>h.1)⟩⟩
  ·obtain⟨v,hv,n,hm⟩:=R.e.at z
   rw[u6]at hv;cases hv
   refine⟨n,v,rfl,?_⟩
   cases m
   ·exact Rp.keep (kp fun a h=>h) hm
   ·exact Rp.keep (kp fun a h=>h.1) hm
   ·cases n
   ·obtain⟨p',rfl,h1,h2,c'⟩:=hm
    exact⟨p',rfl,h1,h2,c'.keep (kp fun a h=>h.1) (ay (JH z rfl u6))⟩
   ·obtain⟨p',rfl,h1,c'⟩:=hm
    exact⟨p',rfl,h1,c'.keep (kp fun a h=>h.1) (ay (JH z rfl u6))⟩
   ·cases n
   ·exact absurd (R.nd.1 k i d _ z hx) nk
   ·cases n
 ·intro a ha
  by_cases z:a=q
  ·subst z;exact⟨_,a9⟩
  ·rw[ay z];exact R.e.od a ha
 ·intro a u h
  by_cases z:a=q
  ·subst z;exact⟨_,a9⟩
  ·rw[ay z];exact R.e.hd a u h
 ·intro a u ha e
  by_cases z:a=q
  ·subst z;rw[a9]at e;cases e;exact fun z=>z
  ·rw[ay z]at e;exact R.e.on a u ha e
 ·intro a u n h
  have z:a≠q:=by rintro rfl;rw[q0]at h;cases h
  rw[ay z];exact R.fr a u n h
 ·intro i' e' p' g1 p1
  rcases get_set g1 with⟨rfl,z⟩|⟨n1,q1⟩
  ·cases z
  ·exact R.ba i' e' p' q1 p1
 ·intro i' k x y a g1 g2 o1 o2 p1 p2
  rcases get_set g1 with⟨rfl,z⟩|⟨_,q1⟩
  ·cases z;cases o1
  ·rcases get_set g2 with⟨rfl,z⟩|⟨_,q2⟩
   ·cases z;cases o2
   ·exact R.dj i' k x y a q1 q2 o1 o2 p1 p2
 ·refine⟨fun i' k d1 d2 g1 g2=>(CV g1).trans (CV g2).symm,fun i' k d1 x p' a zs g1 p1 g2 o2 p2 e=>?_⟩
  have z:=CV g1
  subst z
  rw[hp]at p1;cases p1
  rw[ay (fun z=>qp z.symm)]at e
  rcases get_set g2 with⟨rfl,z⟩|⟨_,q2⟩
  ·cases z;cases o2
  ·exact R.nd.2 i' k _ x p a zs hx hp q2 o2 p2 e
 ·intro a u h n
  have z:a≠q:=by rintro rfl;exact n qO
  exact⟨by rw[ay z];exact h,n⟩
noncomputable def IG(i:Nat)(fk f:Ev→Option (M×D)):Ev→Option Fl:=fun e=>(fk e).bind fun y=>(oJ y).bind fun k=>(f e).bind fun x=>if bM x.1 x.2=true then (CT i e).bind fun aJ=>(dF aJ.length k).bind fun j=>(aJ[j]?).bind fun ds=>if ds.length<sizeLine then some (.nx (e.set i (some (.nb,.lst ((aJ.set j (ds++[x.2])).map D.lst)))))else none else none
theorem Ry{i:Nat}{t tk:TE}{f fk:Ev→Option (M×D)}(hk:JT K tk fk)(h:JT K t f):JS K (qo (pw K "list" su (lZ (rn K) (gq i) tk) (lG t kr))) (IG i fk f):=by
 intro H₀ I O H σ env Ds fl R e q
 obtain⟨y,ey,e⟩:=ao e
 obtain⟨k,ek,e⟩:=ao e
 obtain⟨x,ex,e⟩:=ao e
 split at e
 ·rename_i hs
  obtain⟨aJ,ed,e⟩:=ao e
  obtain⟨j,ej,e⟩:=ao e
  obtain⟨ds,X4,e⟩:=ao e
  split at e
  ·rename_i hl
   cases e
   have hx:=Ut ed
   obtain⟨v,hv,_,p,qs,Zc,rfl,e2,h1,h2,h3,h4,h5,h6⟩:=R.e.at hx
   cases D6 (D.lst.inj e2)
   obtain⟨a,ha,xs,CW,rr⟩:=EJ h6 X4
   refine⟨.ref p,hv,?_⟩
   refine hk H₀ O H σ env _ y.1 y.2 R.e ey fun w H1 s1 hw=>?_
   rw[zQ ek]at hw
   have hlen:qs.length=aJ.length:=cJ h6
   refine .inl ⟨p,_,k,.ref a,rfl,hw.int,.inl (.inl (s1 _ _ h3)),?_,?_⟩
   ·unfold L2.aX
    rw[aU,hlen,ej]
    show(qs.map V.ref)[j]?=_
    rw[cE,ha];rfl
   refine⟨.inl ⟨rfl,xs,.inl (.inl (s1 _ _ CW))⟩,?_⟩
   refine h H₀ O H1 σ env _ x.1 x.2 (R.e.keep s1) ex fun u H2 s2 hu=>?_
   have s:=s1.trans s2
   refine⟨a,xs,u,rfl,rfl,s _ _ CW,by rw[rr.len];exact hl,?_⟩
   have R2:=R.keep s
   obtain⟨R3,st⟩:=R2.WV (ys:=xs++[u]) (es:=ds++[x.2]) hx hv h1 h2 (s _ _ h3) h4 h5 (jf (fun q ds _ ⟨zs,e1,e2⟩=>⟨zs,s _ _ e1,e2.keep (.same s)⟩) h6) ha (s _ _ CW) ((rr.keep (.same s)).app (.cons (hu.bM hs) .nil))
   exact q O _ σ R3 ((aF.same s).trans st)
  ·cases e
 ·cases e
end
section
variable {K:PySem.W.Frag}
end
section
variable {K:PySem.W.Frag}{H H' H₀:Hp}{O:Addr→Prop}{σ:L2.St}{env:Ev}
theorem Val.Uu{m:M}{ks:List (Key×D)}{v:V}{Hb:Hp}(h:Val K H₀ O Hb H m (.dk ks) v):∃a,v=.ref a∧Ci H a:=by
 obtain⟨a,kvs,rfl,rd,_⟩:=h.dk
 exact⟨a,rfl,.inl ⟨kvs,rd⟩⟩
noncomputable def j5(fd fk fx:Ev→Option (M×D)):Ev→Option (M×D):=fun e=>(fd e).bind fun x=>(fk e).bind fun y=>(fx e).bind fun z=>(kC x.2).bind fun ks=>(keyOf y.2).bind fun k=>match bZ ks k with
 |some d=>some (aG x.1,d)
 |none=>if z.2.bx=true then some (.fr,z.2)else none
theorem PL{td ty tx:TE}{fd fk fx:Ev→Option (M×D)}(hd:JT K td fd)(hk:JT K ty fk)(hx:JT K tx fx):JT K (GW td ty tx) (j5 fd fk fx):=by
 intro H₀ O H σ env Q m d R h q
 obtain⟨x,ex,h⟩:=ao h
 obtain⟨y,ey,h⟩:=ao h
 obtain⟨z,ez,h⟩:=ao h
 obtain⟨ks,iW,h⟩:=ao h
 obtain⟨k,ek,h⟩:=ao h
 refine hd H₀ O H σ env _ x.1 x.2 R ex fun v H1 s1 h1=>?_
 rw[vU iW]at h1
 obtain⟨a,rfl,X5⟩:=h1.Uu
 refine⟨a,rfl,X5,hk H₀ O H1 σ env _ y.1 y.2 (R.keep s1) ey fun w H2 s2 h2=>?_⟩
 refine hx H₀ O H2 σ env _ z.1 z.2 ((R.keep s1).keep s2) ez fun u H3 s3 h3=>?_
 obtain⟨a',kvs,e',rd,en⟩:=((h1.keep s2).keep s3).dk
 cases e'
 obtain rfl:=lB ek h2.weak
 have s:=(s1.trans s2).trans s3
 refine⟨dH kvs k,.inl ⟨kvs,k,rd,rfl,rfl⟩,?_⟩
 rcases en.val k with⟨z1,z2⟩|⟨d2,v2,z1,z2,r⟩
 ·rw[z1]at h
  simp only at h
  split at h
  ·rename_i hi
   cases h
   rw[z2]
   exact q u H3 s (show Rp K _ H3 u z.2 from h3.weak.im hi)
  ·cases h
 ·rw[z1]at h;cases h
  rw[z2]
  exact q v2 H3 s (Val.el r)
theorem MK{X:Cx}:gp X (.type "dict") (fun xs H Q=>∃a kvs,xs=[.ref a]∧Rd H a (.dK kvs)∧∀p,H p=none→Q (.ref p) (upd H p (.dK kvs))):=by
 intro pins s σ H xs us Q I r h
 obtain⟨a,kvs,rfl,rd,q⟩:=h
 obtain⟨u,rfl,ru⟩:=vals1 r
 cases (show u=Value.ref a from ru)
 exact OY I rd fun p s' hp I'=>⟨.ref p,_,I',rfl,q p hp⟩
noncomputable def gG:List (M×D)→Option (M×D)
 |[(_,.dk ks)]=>if D.bH (ks.map (·.2))=true then some (.un,.dk ks)else none
 |_=>none
theorem PN:jO K (fun xs H Q=>∃a kvs,xs=[.ref a]∧Rd H a (.dK kvs)∧∀p,H p=none→Q (.ref p) (upd H p (.dK kvs))) gG:=by
 intro H₀ O H vs ak Q m d od hd hv h q
 unfold gG at h
 split at h
 ·split at h
  ·rename_i hi
   cases h
   obtain⟨v,rfl,hw⟩:=hv.one
   obtain⟨a,kvs,rfl,rd,en⟩:=hw.dk
   refine⟨a,kvs,rfl,rd,fun p hp=>q _ _ (cq hp) ⟨p,rfl,hp,lC hd hp,ig od hp,kvs,a9,en.1,?_⟩⟩
   refine((aq.im (N':=fun _=>False) hi en.2).keep (.same (cq hp))).im hi
  ·cases h
 ·cases h
end
end J
namespace J
open PySem PySem.Spec PyProof.Rows L2
section
variable {X:Cx}{pins:List (Addr×Obj)}{σ:L2.St}{H:Hp}{s:Shared}{a d it:Addr}
theorem wo{o1 o2:HO}(I:L2.Inv X pins σ H s)(e:H a=some o1)(ht:∀xs,o1≠.tup xs)(hb:∀ps,o1≠.kM ps)(hx:∀x,o1≠.own x)(hf:∀o u,X.H₀ a≠some (.aK o u))(ok:bT X.prog X.w (upd H a o2) s.heap a o2):L2.Inv X pins σ (upd H a o2) s:=by
 have ne:∀b,H b=none→b≠a:=fun b h z=>by rw[z,e]at h;cases h
 have nt:∀b xs,H b=some (.tup xs)→b≠a:=fun b xs h z=>by rw[z,e]at h;cases h;exact ht _ rfl
 have nx:∀b x,H b=some (.own x)→b≠a:=fun b x h z=>by rw[z,e]at h;cases h;exact hx _ rfl
 refine⟨I.ok,I.os,I.bare,⟨I.base.keep,I.base.slot,fun b o h n hx=>?_,I.base.there,fun b xs h=>?_,fun b o u h=>?_,fun b ps h=>?_⟩,I.loc,I.cell,?_,fun x c h=>?_,fun p hp=>?_,fun b u h=>?_,I.len⟩
 ·have z:=I.base.free b o h n hx
  rw[ay (ne b z)];exact z
 ·have z:=I.base.g7 b xs h
  rw[ay (nt b xs z)];exact z
 ·have z:=I.base.fV b o u h
  rw[ay (fun(q:b=a)=>hf o u (by rw[←q];exact h))];exact z
 ·obtain⟨m,z⟩:=I.base.g8 b ps h
  refine⟨m,?_⟩
  rw[ay (fun q=>by rw[q,e]at z;cases z;exact hb _ rfl)];exact z
 ·rw[ay (ne _ I.free)];exact I.free
 ·rw[ay (ne _ (I.gE x c h))];exact I.gE x c h
 ·obtain⟨h1,h2,h3⟩:=I.pin p hp
  exact⟨h1,by rw[ay (ne _ h2)];exact h2,h3⟩
 ·by_cases z:b=a
  ·subst z;rw[a9]at h;cases h;exact ok
  ·rw[ay z]at h
   exact(I.az b u h).lM (fun c v _ q=>q) (fun c q=>by rw[ay (nx _ _ q)];exact q) fun c xs q=>by rw[ay (nt _ _ q)];exact q
noncomputable def JK(a:Addr)(o:Obj)(u:HO)(Ds:Ends):Ends where
 nx:=fun σ H=>H a=some (.aK o u)∧Ds.nx σ (upd H a u)
 rt:=fun v H=>H a=some (.aK o u)∧Ds.rt v (upd H a u)
 bk:=fun σ H=>H a=some (.aK o u)∧Ds.bk σ (upd H a u)
 ct:=fun σ H=>H a=some (.aK o u)∧Ds.ct σ (upd H a u)
noncomputable def JL(i:Nat)(t:TS):TS:=fun Ds σ H=>∃a kvs,σ[i]?=some (some (.ref a)) ∧
 ((H a=some (.dK kvs)∧∀o,t (JK a o (.dK kvs) Ds) σ (upd H a (.aK o (.dK kvs))))∨((∃o,H a=some (.aK o (.dK kvs)))∧t Ds σ H))
theorem Uv{st:Stmt}{t:TS}{i:Nat}(h:eC X st t):eC X st (JL i t):=by
 refine⟨fun pins s σ H Ds I ht=>?_⟩
 obtain⟨a,kvs,hs,⟨e,ht⟩|⟨_,ht⟩⟩:=ht
 ·have ok:=I.az a _ e
  obtain⟨hz,lo,vs,rv,o,es,ep,ho,r⟩:=id ok
  have hf:∀o u,X.H₀ a≠some (.aK o u):=fun o u z=>by rw[I.base.fV a o u z]at e;cases e
  have I1:L2.Inv X pins σ (upd H a (.aK o (.dK kvs))) s:=wo I e (fun _ z=>nomatch z) (fun _ z=>nomatch z) (fun _ z=>nomatch z) hf ⟨ho,ok⟩
  have th:∀{σ':L2.St}{H':Hp}{s':Shared},L2.Inv X pins σ' H' s'→H' a=some (.aK o (.dK kvs))→L2.Inv X pins σ' (upd H' a (.dK kvs)) s':=fun I' e' =>
   wo I' e' (fun _ z=>nomatch z) (fun _ z=>nomatch z) (fun _ z=>nomatch z) hf (I'.az a _ e').2
  refine aC (h.go pins s σ _ _ I1 (ht o)) fun f s' q=>?_
  cases f with
  |next=>obtain⟨σ',H',I',e',q⟩:=q;exact⟨σ',_,th I' e',q⟩
  |brk=>obtain⟨σ',H',I',e',q⟩:=q;exact⟨σ',_,th I' e',q⟩
  |cont=>obtain⟨σ',H',I',e',q⟩:=q;exact⟨σ',_,th I' e',q⟩
  |ret v=>obtain⟨v',σ',H',I',rG,e',q⟩:=q;exact⟨v',σ',_,th I' e',rG,q⟩
 ·exact h.go pins s σ H Ds I ht
theorem PQ:entryFor table "dict_itemiterator.__iter__" = some Builtin.«dict_keyiterator.__iter__» :=
 entryFor_alias (id' := "dict_keyiterator.__iter__") (by kernel_rfl) rfl (by decide +kernel) (by kernel_rfl)
noncomputable def CY(d:Addr)(o:Obj)(kvs:List (Key×V)):It :=
 ⟨fun i H=>H d=some (.aK o (.dK kvs))∧i<kvs.length,fun i H x H'=>∃t kv,x=.ref t∧H t=none∧H'=upd H t (.tup [kV kv.1,kv.2])∧kvs[i]?=some kv,fun i H=>H d=some (.aK o (.dK kvs))∧kvs.length≤i⟩
theorem Gg{o:Obj}{kvs:List (Key×V)}{es:Array DictEntry}{ep:Nat}(I:L2.Inv X pins σ H s)(e:H d=some (.aK o (.dK kvs)))(hd:o.data=.dict es ep):∃vs,KV kvs vs∧s.heap.DictAt (cu X.prog X.w) d vs ep:=by
 obtain⟨ho,hz,lo,vs,rv,o',uC,uD,dE,ex,jI,r⟩:=(I.az d _ e:bT X.prog X.w H s.heap d (.aK o (.dK kvs)))
 rw[ho]at dE;cases dE
 rw[hd]at jI;cases jI
 exact⟨vs,rv,o,es,ho,ex,hd,r⟩
theorem wt:∀{kvs:List (Key×V)}{vs:List (Key×Value)}{i:Nat}{kv:Key×V},KV kvs vs→kvs[i]?=some kv→∃u,vs[i]?=some (kv.1,u)∧RelV kv.2 u
 |_,_,_,_,.nil,e=>by simp at e
 |_,_,0,_,.cons (b:=q) h _,e=>by
  simp only[List.getElem?_cons_zero,Option.some.injEq]at e
  subst e
  exact⟨q.2,by rw[Kf,h.1],h.2⟩
 |_,_,i+1,kv,.cons _ t,e=>by
  obtain⟨u,h1,h2⟩:=wt (i:=i) (kv:=kv) t (by simpa using e)
  exact⟨u,by simpa using h1,h2⟩
theorem Gh{P:Program}{w:World}{k:Key}{u:Value}(h:(cu P w).is k u=true):RelV (kV k) u:=by
 rcases iZ (k:=k) (v:=u) h with⟨i,t,rfl,rfl⟩|⟨x,t,rfl,rfl⟩|⟨rfl,rfl⟩<;>first|exact⟨t,rfl⟩|rfl
theorem M7{P:Program}{w:World}{K:PySem.W.Frag}{elts:List Expr}{x1}{pos:Pos}{o:Obj}{kvs:List (Key×V)}{es:Array DictEntry}{ep:Nat}(hd:o.data=.dict es ep):Turn P w K (.Tuple elts x1 pos) (CY d o kvs) [it] it (fun i h=>∃ok ov,IsItemIter h it d i kvs.length ep ok ov) where
 mem:=by simp
 obj:=fun i h st b hb=>by
  have e:b=it:=by simpa using hb
  subst e
  obtain⟨ok,ov,he⟩:=st
  exact⟨_,he,fun v z=>nomatch z⟩
 keep:=fun i h h' st k=>by
  obtain⟨ok,ov,he⟩:=st
  exact⟨ok,ov,k it (by simp) _ he⟩
 item:=by
  intro X hP hw hK hc i pins s σ H E I hf st hg
  subst hP hw hK
  obtain⟨e,hi⟩:=hg
  obtain⟨ok,ov,he⟩:=st
  obtain⟨vs,rv,da⟩:=Gg I e hd
  obtain⟨u,hu,ru⟩:=wt rv (bO hi)
  have hl:it<s.heap.objs.size:=bz he
  have hT:H s.heap.objs.size=none:=I.az.fresh (aR _)
  have CZ:IsItemIter s.heap it d i vs.length ep ok ov:=by rw[←rv.length];exact he
  refine wpAny_pyNext_items_item CZ da hu fun key h1 WW WX ht hsz hk=>⟨_,rfl,?_⟩
  refine wpAny_letOwnedTupleGo_items WX fun h2 yE sb=>?_
  have CK:h2.get? s.heap.objs.size=some { cls:=.type "tuple",data:=.seq #[key,u] }:=(sb.2 _ (Nat.ne_of_gt hl)).trans ht
  have k2:∀b o,b∉[it]→s.heap.get? b=some o→h2.get? b=some o:=fun b o nb q=>by
   have n1:b≠it:=fun z=>nb (by simp[z])
   exact(sb.2 b n1).trans (hk b o n1 q)
  refine⟨.ref s.heap.objs.size,upd H s.heap.objs.size (.tup [kV kvs[i].1,kvs[i].2]),?_,rfl,⟨s.heap.objs.size,kvs[i],rfl,hT,rfl,bO hi⟩,⟨_,_,by rw[←rv.length]at yE;exact yE⟩,fun b hb=>?_⟩
  ·refine D1 (t':=s.toks) I k2 hf ⟨by show 2≤sizeLine;decide,[key,u],.cons (Gh WW) (.cons ru .nil),⟨_,CK,rfl,rfl,_,rfl⟩⟩
  ·have eb:b=it:=by simpa using hb
   subst eb
   rw[ay (cK hl)]
   exact(hf _ hb).1
 done:=by
  intro X hP hw hK hc i pins s σ H E I hf st hg
  subst hP hw hK
  obtain⟨e,hi⟩:=hg
  obtain⟨ok,ov,he⟩:=st
  obtain⟨vs,rv,da⟩:=Gg I e hd
  have CZ:IsItemIter s.heap it d i vs.length ep ok ov:=by rw[←rv.length];exact he
  refine wpAny_pyNext_items_end (I.ok.hd hc) CZ da (jG (by rw[←rv.length];exact hi)) fun h1 eb=>⟨rfl,?_⟩
  exact Ei (fp:=[it]) (t':=s.toks) I (fun b o nb q=>eb b o (fun z=>nb (by simp[z])) q) hf
 self:=fun A i s Q E st h=>by
  obtain⟨ok,ov,he⟩:=st
  have hT:s.TypeIs (.ref it) "dict_itemiterator" := ⟨_,he,rfl⟩
  refine wpAny_pyIter_slot hT PySem.F.slot_dict_itemiterator_iter (oT PySem.F.slot_dict_itemiterator_iter hT PQ ?_ (PySem.F.args_dict_itemiterator_iter_1 _))
  show wpAny _ _ (ret (.ref it)) _ _ s
  exact aO ⟨_,rfl, "dict_itemiterator",_,hT,PySem.F.slot_dict_itemiterator_next.lookup,h⟩
end
noncomputable def Ak(td:TE):TI:=fun σ H R=>td σ H fun x H1=>∃a o kvs,x=.ref a∧H1 a=some (.aK o (.dK kvs))∧R (CY a o kvs) H1
theorem PR{X:Cx}{e:Expr}{td:TE}{apos bX pos':Pos}{elts:List Expr}{x1}(he:PE X e td)
  (om:attributeBase e "items" X.env (eval e X.env)=eval e X.env:=by rfl) (hline:(apos.endLine==bX.line)=true:=by rfl):PI X (.Tuple elts x1 pos') (.Call (.Attribute e "items" apos) [] [] bX) (Ak td):=by
 intro pins s σ H R I h
 refine wpAny_Call_method0_late om hline (aC (he pins s σ H _ I h) fun v s1 ⟨x,H1,I1,r1,a,o,kvs,ex,hf,q⟩=>?_)
 subst ex
 obtain rfl:v=Value.ref a:=r1
 obtain⟨ho,hz,lo,vs,rv,yH⟩:=(I1.az a _ hf:bT X.prog X.w H1 s1.heap a (.aK o (.dK kvs)))
 obtain⟨o',es,ep,dE,ex,hd,r⟩:=id yH
 rw[ho]at dE;cases dE
 refine⟨"dict", "dict.items",BU,PySem.F.slot_dict_items,PySem.F.type_dict_items,⟨o,ho,ex.1⟩,fun a' e2=>by cases e2;exact⟨o,ho,ex.2.1⟩,uj rfl (PySem.evalArgs_none ?_)⟩
 refine qT PySem.F.slot_dict_items ⟨o,ho,ex.1⟩ PySem.F.entry_dict_items (PySem.F.args_dict_items_1 _) (meets_dict_items (cu X.prog X.w) a lo) ⟨⟨vs,yH⟩,?_⟩
 have da:s1.heap.DictAt (cu X.prog X.w) a vs ep:=⟨o,es,ho,ex,hd,r⟩
 refine wpAny_pyIter_items (knd:=cu X.prog X.w) (d:=a) (kvs:=vs) (ep:=ep) ⟨_,eU _ rfl,rfl,rfl⟩ (da.push _) ?_
 have I2:L2.Inv X pins σ H1 { s1 with heap:=s1.heap.push { cls:=.type "dict_items",data:=.fields #[.ref a] } }:=I1.kept (t':=s1.toks) fun b u q=>cy _ q
 have I3:=I2.kept (t':=s1.toks) (h':=(s1.heap.push { cls:=.type "dict_items",data:=.fields #[.ref a] }).push { cls:=.type "dict_itemiterator",data:=.fields #[.none,.bool false,.ref a,.int 0 0,.int vs.length 0,.int ep 0,.none,.none] }) fun b u q=>cy _ q
 refine⟨_,[_],_,_,H1,rfl,I3,M7 hd,⟨.none,.none,by rw[rv.length];exact eU _ rfl⟩,fun b hb=>?_,q⟩
 have gC:b=(s1.heap.push { cls:=.type "dict_items",data:=.fields #[.ref a] }).objs.size:=by simpa using hb
 subst gC
 exact I2.oF (aR _) (I2.az.fresh (aR _))
noncomputable def cg:Key→D
 |.inl i=>.int i
 |.inr x=>.str x
 |.non=>.non
noncomputable def jh(ks:List (Key×D)):List D:=ks.map fun kv=>.tup [cg kv.1,kv.2]
noncomputable def WY:HO→Bool
 |.aK _ _=>false
 |_=>true
def lg(H H':Hp):Prop:=(∀b u,WY u=true→Rd H b u→Rd H' b u)∧∀b xs,H b=some (.tup xs)→H' b=some (.tup xs)
section
variable {K:PySem.W.Frag}{N:Addr→Prop}{H H' H₀ H₁:Hp}{I:Nat→Option Addr}{O:Addr→Prop}{σ:L2.St}{env:Ev}
mutual
theorem Rp.b5(w:lg H H'):∀{v:V}{d:D},Rp K N H v d→Rp K N H' v d
 |_,_,.non=>.non
 |_,_,.bl b=>.bl b
 |_,_,.int i=>.int i
 |_,_,.str x=>.str x
 |_,_,.ty n=>.ty n
 |_,_,.tup h r=>.tup (h.elim (fun z=>.inl (w.2 _ _ z)) .inr) (aq.b5 w r)
 |_,_,.lst h n r=>.lst (w.1 _ _ rfl h) n (aq.b5 w r)
 |_,_,.lstK h r=>.lstK h (aq.b5 w r)
 |_,_,.dk h n e r=>.dk (w.1 _ _ rfl h) n e (aq.b5 w r)
 |_,_,.dt h n e r=>.dt (w.1 _ _ rfl h) n e (aq.b5 w r)
theorem aq.b5(w:lg H H'):∀{vs:List V}{ds:List D},aq K N H vs ds→aq K N H' vs ds
 |_,_,.nil=>.nil
 |_,_,.cons h r=>.cons (Rp.b5 w h) (aq.b5 w r)
end
theorem Cell.b5{p:Addr}{d:D}(w:lg H H')(e:H' p=H p)(h:Cell K N H p d):Cell K N H' p d:=by
 cases d<;>simp only[Cell]at h ⊢
 ·obtain⟨xs,q,r⟩:=h;exact⟨xs,e.trans q,r.b5 w⟩
 ·obtain⟨xs,q,z,r⟩:=h;exact⟨xs,e.trans q,z,r.b5 w⟩
 ·obtain⟨xs,q,z,r⟩:=h;exact⟨xs,e.trans q,z,r.b5 w⟩
theorem Val.b5{m:M}{d:D}{v:V}(w:lg H H')(un:(m=.un∨m=.ut)→∀p d N,Cell K N H p d→H' p=H p)(on:∀p,O p→H' p=H p)(z:∀b,H₀ b=none→H₁ b=none)(h:Val K H₀ O HE H m d v):Val K H₁ O HE H' m d v:=by
 cases m<;>simp only[Val]at h ⊢
 ·exact h.b5 w
 ·exact(h.b5 w).wk fun a n _=>⟨n.1,z a n.2⟩
 ·obtain⟨p,e,h1,h2,h3,c⟩:=h
  exact⟨p,e,h1,z _ h2,h3,(c.b5 w (un (.inl rfl) _ _ _ c)).wk fun a n _=>⟨⟨n.1.1,z a n.1.2⟩,n.2⟩⟩
 ·obtain⟨p,e,h1,h2,c⟩:=h
  exact⟨p,e,h1,z _ h2,(c.b5 w (on _ h1)).wk fun a n _=>⟨n.1,z a n.2⟩⟩
 ·obtain⟨p,e,h1,c⟩:=h
  exact⟨p,e,h1,(c.b5 w (on _ h1)).wk fun a n _=>⟨n.1,z a n.2⟩⟩
 ·exact(h.b5 w).wk fun a n _=>z a n
 ·obtain⟨p,qs,aJ,e1,e2,h1,h2,h3,h4,h5,h6⟩:=h
  exact⟨p,qs,aJ,e1,e2,h1,z _ h2,(on _ h1).trans h3,h4,fun q hq=>⟨(h5 q hq).1,z _ (h5 q hq).2.1,(h5 q hq).2.2⟩,jf (fun q ds hq ⟨xs,a,r⟩=>⟨xs,(on _ (h5 q hq).1).trans a,(r.b5 w).wk fun a n _=>⟨n.1,z a n.2⟩⟩) h6⟩
 ·obtain⟨a,xs,ds,e1,e2,h1,h2⟩:=h
  refine⟨a,xs,ds,e1,e2,h1.imp (w.2 a xs) id,Paired.kh h2 fun d v y=>?_⟩
  rcases y with⟨y1,y2⟩|⟨q,y1,y2,c⟩
  ·exact .inl ⟨y1,y2.b5 w⟩
  ·exact .inr ⟨q,y1,⟨y2.1,z _ y2.2.1,y2.2.2⟩,c.b5 w (un (.inr rfl) _ _ _ c)⟩
theorem Rel.b5(R:Rel K H₀ I O H σ env)(w:lg H H')(on:∀p,O p→H' p=H p)(z:∀b,H₀ b=none↔H₁ b=none)(nn:∀b o,H b=some o→∃o',H' b=some o')(fr:∀b o,(∀i,I i≠some b)→H₁ b=some o→H' b=some o):Rel K H₁ I O H' σ env:=by
 refine⟨⟨j8 (fun e x h m d q=>?_) R.e.sl,fun a h=>?_,fun a o h=>?_,fun a o h e=>?_⟩,fr,fun a h=>?_,R.ba,R.dj,R.nd.keep fun i d p h1 h2=>?_⟩
 ·obtain⟨n,v,ev,hv⟩:=h m d q
  exact⟨n,v,ev,hv.b5 w (fun q=>by rcases q with rfl|rfl<;>cases n) on fun b=>(z b).mp⟩
 ·obtain⟨o,q⟩:=R.e.od a h
  exact nn a o q
 ·cases q:H₀ a with
  |none=>rw[(z a).mp q]at h;cases h
  |some o0 =>
   obtain⟨o1,q1⟩:=R.e.hd a o0 q
   exact nn a o1 q1
 ·rw[on a h]at e;exact R.e.on a o h e
 ·exact(R.ow a h).imp id (z a).mp
 ·obtain⟨qs,aJ,_,hO,_⟩:=R.e.nest h1 h2
  exact on p hO
theorem Fn{wi:TI}{g:TG}{tb:TS}{fg:M×D→Ev→Option Ev}{b:Ev→Option Fl}{Ds:Ends}{fl:Fl}{m:M}{ds:List D}(hg:JG K g fg)(hb:JS K tb b)(R:Rel K H₀ I O H σ env)(hm:dB m=true)
  (hi:∀R',(∀J H',aA H H'→iH K H₀ O J H' m ds→R' J H')→wi σ H R') (e:forL fg b m ds env=some fl) (q:lP K H₀ I O H Ds fl):km wi g tb Ds σ H:=by
 refine hi _ fun J H1 s1 ok=>?_
 have q1:=q.pre (aF.same s1)
 refine⟨fun i n σ2 H2=>∃O2 cO,Rel K H₀ I O2 H2 σ2 cO∧aF O H1 O2 H2∧i≤ds.length∧n=ds.length-i∧forL fg b m (ds.drop i) cO=some fl,⟨_,O,env,R.keep s1,aF.refl,oW _,rfl,e⟩,?_⟩
 rintro i n σ2 H2 ⟨O2,cO,R2,st,hle,rfl,ef⟩
 by_cases aT:i<ds.length
 ·refine .inr ⟨ok.go O2 H2 i st aT,fun σ' H'=>∃O2 cO,Rel K H₀ I O2 H' σ' cO∧aF O H1 O2 H'∧forL fg b m (ds.drop (i+1)) cO=some fl,?_,?_⟩
  ·rintro σ' H' ⟨O3,Bd,R3,f7,CF⟩
   exact⟨ds.length-(i+1),by omega,O3,Bd,R3,f7,aT,rfl,CF⟩
  ·intro x H3 y
   obtain⟨s3,d,hd,hv⟩:=ok.hX O2 H2 i x H3 st aT y
   have uU:ds.drop i=d::ds.drop (i+1):=by
    rw[lV aT]
    rw[bO aT]at hd
    cases hd;rfl
   rw[uU]at ef
   simp only[forL]at ef
   obtain⟨e1,g1,ef⟩:=ao ef
   obtain⟨r,br,ef⟩:=ao ef
   refine hg H₀ I O2 H3 σ2 cO (m,d) x e1 _ (R2.keep s3) hm hv g1 fun σ4 R4=>?_
   have k6:=st.trans (aF.same (O:=O2) s3)
   refine hb H₀ I O2 H3 σ4 e1 _ r R4 br ?_
   cases r with
   |nx e2=>exact fun O5 H5 σ5 R5 dS=>⟨O5,e2,R5,k6.trans dS,ef⟩
   |ct e2=>exact fun O5 H5 σ5 R5 dS=>⟨O5,e2,R5,k6.trans dS,ef⟩
   |bk e2=>cases ef;exact(q1.pre k6)
   |rt e2 m' d'=>cases ef;exact(q1.pre k6)
 ·have hi:i=ds.length:=by omega
  subst hi
  rw[BZ]at ef
  cases ef
  exact .inl ⟨ok.stop O2 H2 st,q1 O2 H2 σ2 R2 st⟩
theorem Ent.at{kvs:List (Key×V)}{ks:List (Key×D)}{i:Nat}{kv:Key×V}(h:Ent K N H kvs ks)(e:kvs[i]?=some kv):∃d,ks[i]?=some (kv.1,d)∧Rp K N H kv.2 d:=by
 induction kvs generalizing ks i with
 |nil=>simp at e
 |cons p kvs ih =>
  cases ks with
  |nil=>exact absurd h.len (by simp)
  |cons q ks =>
   obtain⟨e1,r,t⟩:=h.cons_inv
   cases i with
   |zero=>simp only[List.getElem?_cons_zero,Option.some.injEq]at e;subst e;exact⟨q.2,by rw[Kf,e1],r⟩
   |succ i=>obtain⟨d,h1,h2⟩:=ih t (by simpa using e);exact⟨d,by simpa using h1,h2⟩
theorem M8{m:M}{a:Addr}{o:Obj}{kvs:List (Key×V)}{ks:List (Key×D)}(hm:dB m=true)(e:H a=some (.aK o (.dK kvs)))(ha:¬O a)(en:Ent K (NM H₀ O m) H kvs ks)(on:∀a o,O a→H a=some o→¬fP o):iH K H₀ O (CY a o kvs) H m (jh ks) where
 go:=fun O2 H2 i st hi=>⟨(st a _ e ha).1,by rw[jh,aU,←en.len]at hi;exact hi⟩
 hX:=by
  rintro O2 H2 i x H3 st hi ⟨t,kv,rfl,ht,rfl,X6⟩
  have s3:aA H2 (upd H2 t (.tup [kV kv.1,kv.2])):=cq ht
  obtain⟨d,hd,hr⟩:=en.at X6
  refine⟨s3,.tup [cg kv.1,d],by rw[jh,cE,hd];rfl,?_⟩
  have kp:Val K H₀ O2 HE H2 m d kv.2:=vQ hm on st hr
  have key:∀{N:Addr→Prop}{H:Hp},Rp K N H (kV kv.1) (cg kv.1):=fun {N H}=>by
   cases kv.1 with
   |inl i=>exact .int i
   |inr x=>exact .str x
   |non=>exact .non
  have mk:∀{N:Addr→Prop},Rp K N H2 kv.2 d→Rp K N (upd H2 t (.tup [kV kv.1,kv.2])) (.ref t) (.tup [cg kv.1,d]):=fun r=>.tup (.inl a9) (.cons key (.cons (r.keep (.same s3)) .nil))
  cases m<;>first|exact mk kp|cases hm
 stop:=fun O2 H2 st=>⟨(st a _ e ha).1,by rw[jh,aU,en.len];exact aR _⟩
noncomputable def wX(i:Nat)(g:M×D→Ev→Option Ev)(b:Ev→Option Fl):Ev→Option Fl:=fun e=>match e[i]? with
 |some (some (m,.dk ks))=>if dB m=true then forL g b m (jh ks) e else none
 |_=>none
theorem Rz{i:Nat}{g:TG}{tb:TS}{fg:M×D→Ev→Option Ev}{b:Ev→Option Fl}(hg:JG K g fg)(hb:JS K tb b):JS K (JL i (km (Ak (gq i)) g tb)) (wX i fg b):=by
 intro H₀ I O H σ env Ds fl R e q
 unfold wX at e
 split at e
 ·rename_i m ks he
  split at e
  ·rename_i hm
   obtain⟨v,hv,_,hz⟩:=R.e.at he
   have rH:∃a kvs,v=.ref a∧Rd H a (.dK kvs)∧¬O a∧Ent K (NM H₀ O m) H kvs ks:=by
    cases m<;>try (cases hm;done)
    ·cases hz with|dk r n e q=>exact⟨_,_,rfl,r,n,e,q⟩
    ·cases hz with|dk r n e q=>exact⟨_,_,rfl,r,n.1,e,q⟩
   obtain⟨a,kvs,rfl,rd,na,en⟩:=rH
   have run:∀{G H1:Hp}{o:Obj}{Es:Ends},Rel K G I O H1 σ env→H1 a=some (.aK o (.dK kvs))→Ent K (NM G O m) H1 kvs ks→lP K G I O H1 Es fl→km (Ak (gq i)) g tb Es σ H1:=fun R1 e1 u9 q1 =>
    Fn hg hb R1 hm (fun R' k=>⟨_,hv,a,_,kvs,rfl,e1,k _ _ (aA.refl _) (M8 hm e1 na u9 R1.e.on)⟩) e q1
   refine⟨a,kvs,hv,?_⟩
   rcases rd with e1|⟨o,e1⟩
   ·refine .inl ⟨e1,fun o=>?_⟩
    have w:lg H (upd H a (.aK o (.dK kvs))):=⟨fun b u _ h=>by
     by_cases z:b=a
     ·subst z
      rcases h with h|⟨o',h⟩
      ·rw[e1]at h;cases h;exact .inr ⟨o,a9⟩
      ·rw[e1]at h;cases h
     ·unfold Rd at h ⊢;rw[ay z];exact h,fun b xs h=>by rw[ay (lF h e1 (fun z=>nomatch z))];exact h⟩
    have nO:∀p,O p→p≠a:=fun p h z=>na (z▸h)
    have zz:∀b,H₀ b=none↔(fun b=>if b=a then (H₀ a).map (fun _=>HO.aK o (.dK kvs))else H₀ b) b=none:=fun b=>by
     by_cases z:b=a
     ·subst z;simp
     ·simp[z]
    have R1:Rel K (fun b=>if b=a then (H₀ a).map (fun _=>HO.aK o (.dK kvs))else H₀ b) I O (upd H a (.aK o (.dK kvs))) σ env:=by
     refine R.b5 w (fun p h=>ay (nO p h)) zz (fun b u h=>?_) fun b u n h=>?_
     ·by_cases z:b=a
      ·subst z;exact⟨_,a9⟩
      ·exact⟨u,by rw[ay z];exact h⟩
     ·by_cases z:b=a
      ·subst z
       simp only[if_true]at h
       cases q0:H₀ b with
       |none=>rw[q0]at h;cases h
       |some u0=>rw[q0]at h;cases h;exact a9
      ·simp only[z,if_false]at h
       rw[ay z];exact R.fr b u n h
    have back:∀{O':Addr→Prop}{H':Hp},aF O (upd H a (.aK o (.dK kvs))) O' H'→H' a=some (.aK o (.dK kvs))∧aF O H O' (upd H' a (.dK kvs)) ∧
      (∀{σ':L2.St}{env':Ev},Rel K (fun b=>if b=a then (H₀ a).map (fun _=>HO.aK o (.dK kvs))else H₀ b) I O' H' σ' env'→Rel K H₀ I O' (upd H' a (.dK kvs)) σ' env') ∧
      ∀{m:M}{d:D}{v:V},Val K (fun b=>if b=a then (H₀ a).map (fun _=>HO.aK o (.dK kvs))else H₀ b) O' HE H' m d v→Val K H₀ O' HE (upd H' a (.dK kvs)) m d v:=fun {O' H'} st=>by
     obtain⟨ha,vd⟩:=st a _ a9 na
     have w':lg H' (upd H' a (.dK kvs)):=⟨fun b u nf h=>by
      by_cases z:b=a
      ·subst z
       rcases h with h|⟨o',h⟩
       ·rw[ha]at h;cases h;cases nf
       ·rw[ha]at h;cases h;exact .inl a9
      ·unfold Rd at h ⊢;rw[ay z];exact h,fun b xs h=>by rw[ay (lF h ha (fun z=>nomatch z))];exact h⟩
     have ve:∀p,O' p→upd H' a (.dK kvs) p=H' p:=fun p h=>ay fun z=>vd (z▸h)
     refine⟨ha,fun b u h n=>?_,fun R'=>?_,fun cF=>cF.b5 w' (fun _ p d N c=>?_) ve fun b=>(zz b).mpr⟩
     ·by_cases z:b=a
      ·subst z;rw[e1]at h;cases h;exact⟨a9,vd⟩
      ·obtain⟨h1,h2⟩:=st b u (by rw[ay z];exact h) n
       exact⟨by rw[ay z];exact h1,h2⟩
     ·refine R'.b5 w' ve (fun b=>(zz b).symm) (fun b u h=>?_) fun b u n h=>?_
      ·by_cases z:b=a
       ·subst z;exact⟨_,a9⟩
       ·exact⟨u,by rw[ay z];exact h⟩
      ·by_cases z:b=a
       ·subst z
        have h2:=R.fr b u n h
        rw[e1]at h2;cases h2;exact a9
       ·rw[ay z]
        exact R'.fr b u n (by simp only[z,if_false];exact h)
     ·refine ay fun z=>?_
      subst z
      cases d<;>simp only[Cell]at c
      ·obtain⟨xs,q,_⟩:=c;rw[ha]at q;cases q
      ·obtain⟨xs,q,_⟩:=c;rw[ha]at q;cases q
      ·obtain⟨xs,q,_⟩:=c;rw[ha]at q;cases q
    refine run R1 a9 ⟨en.1,(en.2.b5 w).wk fun b n _=>?_⟩ ?_
    ·cases m<;>try (cases hm;done)
     ·exact n
     ·exact⟨n.1,(zz b).mp n.2⟩
    ·cases fl with
     |nx e'=>exact fun O' H' σ' R' st=>⟨(back st).1,q _ _ _ ((back st).2.2.1 R') (back st).2.1⟩
     |bk e'=>exact fun O' H' σ' R' st=>⟨(back st).1,q _ _ _ ((back st).2.2.1 R') (back st).2.1⟩
     |ct e'=>exact fun O' H' σ' R' st=>⟨(back st).1,q _ _ _ ((back st).2.2.1 R') (back st).2.1⟩
     |rt e' m' d'=>exact fun O' H' σ' v R' st cF=>⟨(back st).1,q _ _ _ v ((back st).2.2.1 R') (back st).2.1 ((back st).2.2.2 cF)⟩
   ·exact .inr ⟨⟨o,e1⟩,run R e1 en q⟩
  ·cases e
 ·cases e
end
end J
namespace J
open PySem
def yI(P:Program)(w:World)(A:Around)(s:Shared)(y x:Value)(b:Bool):Prop :=
 ∀(E:Value→Shared→Prop) (Q:Bool→Shared→Prop),Q b s→wpAny (model P w) A (eqBool y x) Q E s
theorem WZ(P:Program)(w:World)(l b:Addr)(xs ys:Array Value)(n n':Nat)(dd fO:Option Addr)(sl jH:Array (Option Value))(f:Nat→Bool) :
  MeetsIn P w (Builtin.«tuple.__eq__» ⟨[.ref l,.ref b],[]⟩) (fun A R s=>s.heap.get? l=some { cls:=.type "tuple",dict:=dd,data:=.seq xs n,slots:=sl } ∧
    s.heap.get? b=some { cls:=.type "tuple",dict:=fO,data:=.seq ys n',slots:=jH }∧(∀j (h1:j<xs.size) (h2:j<ys.size),yI P w A.in1 s xs[j] ys[j] (f j))∧R (.ok (.ret (.bool ((List.range (min xs.size ys.size)).all f&&xs.size==ys.size)))) s) :=
 .of_wp fun A R s q=>by
  obtain⟨hp,g,d,tk,os⟩:=s;obtain⟨hl,hb,he,h⟩:=q
  have f2:=AutoSeq1.sub_tuple_tuple
  have zl:(xs.toList.zip ys.toList).length=min xs.size ys.size:=by simp
  wp_walk using AutoSeq1.wpAny_loadPart' hl,AutoSeq1.wpAny_loadPart' hb,wpAny_forIn_list _ (fun r b s'=>b.1=none∧s'=⟨hp,g,d,tk,os⟩∧∃i,r=(xs.toList.zip ys.toList).drop i∧R (.ok (.ret (.bool (((List.range (min xs.size ys.size)).drop i).all f&&xs.size==ys.size)))) ⟨hp,g,d,tk,os⟩) _
  case turn =>
   rintro⟨y,x⟩ r b s' ⟨gC,rfl,i,hz,hR⟩
   have il:i<(xs.toList.zip ys.toList).length:=by
    rcases hJ i (xs.toList.zip ys.toList).length with k|k
    ·exact k
    ·rw[List.drop_of_length_le k]at hz;cases hz
   have im:i<min xs.size ys.size:=zl▸il
   have i1:i<xs.size:=dI im (Nat.min_le_left _ _)
   have i2:i<ys.size:=dI im (Nat.min_le_right _ _)
   rw[lV il]at hz
   obtain⟨zz,hr⟩:=qX hz
   have ey:y=xs[i]:=by simpa using cP Prod.fst zz
   have ex:x=ys[i]:=by simpa using cP Prod.snd zz
   subst ey ex
   have dr:(List.range (min xs.size ys.size)).drop i=i::(List.range (min xs.size ys.size)).drop (i+1):=by simp[List.drop_eq_getElem_cons,im]
   rw[dr,jE]at hR
   refine av (he i i1 i2 _ _ ?_)
   cases hf:f i with
   |true=>rw[hf]at hR;wp_walk;exact⟨rfl,rfl,i+1,hr,by simpa using hR⟩
   |false=>rw[hf]at hR;wp_walk;exact⟨_,rfl,by simpa using hR⟩
  case fin =>
   rintro⟨b1,b2⟩ s' ⟨gC,rfl,i,hz,hR⟩
   obtain rfl:b1=none:=gC
   have ge:min xs.size ys.size≤i:=by
    rcases hJ i (xs.toList.zip ys.toList).length with k|k
    ·rw[lV k]at hz;cases hz
    ·exact zl▸k
   rw[List.drop_of_length_le (by simpa using ge)]at hR
   wp_walk
   exact⟨_,rfl,by simpa[Builtin.Tuple.tupleCompareSizes]using hR⟩
  case h=>exact⟨rfl,rfl,0,rfl,by simpa using h⟩
theorem W0(P:Program)(w:World)(l b:Addr)(xs ys:Array Value)(n n':Nat)(dd fO:Option Addr)(sl jH:Array (Option Value))(f:Nat→Bool) :
  MeetsIn P w (Builtin.«tuple.__ne__» ⟨[.ref l,.ref b],[]⟩) (fun A R s=>s.heap.get? l=some { cls:=.type "tuple",dict:=dd,data:=.seq xs n,slots:=sl } ∧
    s.heap.get? b=some { cls:=.type "tuple",dict:=fO,data:=.seq ys n',slots:=jH }∧(∀j (h1:j<xs.size) (h2:j<ys.size),yI P w A.in1 s xs[j] ys[j] (f j))∧R (.ok (.ret (.bool (!((List.range (min xs.size ys.size)).all f&&xs.size==ys.size))))) s) :=
 .of_wp fun A R s q=>by
  obtain⟨hp,g,d,tk,os⟩:=s;obtain⟨hl,hb,he,h⟩:=q
  have f2:=AutoSeq1.sub_tuple_tuple
  have zl:(xs.toList.zip ys.toList).length=min xs.size ys.size:=by simp
  wp_walk using AutoSeq1.wpAny_loadPart' hl,AutoSeq1.wpAny_loadPart' hb,wpAny_forIn_list _ (fun r b s'=>b.1=none∧s'=⟨hp,g,d,tk,os⟩∧∃i,r=(xs.toList.zip ys.toList).drop i∧R (.ok (.ret (.bool (!(((List.range (min xs.size ys.size)).drop i).all f&&xs.size==ys.size))))) ⟨hp,g,d,tk,os⟩) _
  case turn =>
   rintro⟨y,x⟩ r b s' ⟨gC,rfl,i,hz,hR⟩
   have il:i<(xs.toList.zip ys.toList).length:=by
    rcases hJ i (xs.toList.zip ys.toList).length with k|k
    ·exact k
    ·rw[List.drop_of_length_le k]at hz;cases hz
   have im:i<min xs.size ys.size:=zl▸il
   have i1:i<xs.size:=dI im (Nat.min_le_left _ _)
   have i2:i<ys.size:=dI im (Nat.min_le_right _ _)
   rw[lV il]at hz
   obtain⟨zz,hr⟩:=qX hz
   have ey:y=xs[i]:=by simpa using cP Prod.fst zz
   have ex:x=ys[i]:=by simpa using cP Prod.snd zz
   subst ey ex
   have dr:(List.range (min xs.size ys.size)).drop i=i::(List.range (min xs.size ys.size)).drop (i+1):=by simp[List.drop_eq_getElem_cons,im]
   rw[dr,jE]at hR
   refine av (he i i1 i2 _ _ ?_)
   cases hf:f i with
   |true=>rw[hf]at hR;wp_walk;exact⟨rfl,rfl,i+1,hr,by simpa using hR⟩
   |false=>rw[hf]at hR;wp_walk;exact⟨_,rfl,by simpa using hR⟩
  case fin =>
   rintro⟨b1,b2⟩ s' ⟨gC,rfl,i,hz,hR⟩
   obtain rfl:b1=none:=gC
   have ge:min xs.size ys.size≤i:=by
    rcases hJ i (xs.toList.zip ys.toList).length with k|k
    ·rw[lV k]at hz;cases hz
    ·exact zl▸k
   rw[List.drop_of_length_le (by simpa using ge)]at hR
   wp_walk
   exact⟨_,rfl,by simpa[Builtin.Tuple.tupleCompareSizes,bne]using hR⟩
  case h=>exact⟨rfl,rfl,0,rfl,by simpa using h⟩
end J
namespace J
open PySem PySem.Spec PyProof.Rows L2
noncomputable def hitsD(ls:List (Key×D)):List (Key×D)→Bool
  |[]=>true
  | (k,d)::r=>match bZ ls k with
    |none=>false
    |some e=>PyData.eqv (toPy d) (toPy e)&&hitsD ls r
noncomputable def gw(ds:List D):Bool:=cC ds&&ds.all fun d=>decide ((toPy d).depth≤40)
noncomputable def lh:D→D→Option Bool
 |.dk ks,.dk ls=>if (gw (ks.map (·.2))&&gw (ls.map (·.2)))=true then some (ks.length==ls.length&&hitsD ls ks)else none
 |a,b=>if (plain a&&plain b&&decide ((toPy a).depth≤40))=true then some (PyData.eqv (toPy a) (toPy b))else none
noncomputable def xH:List D→List D→Option Bool
 |[],[]=>some true
 |[],_::_=>some false
 |_::_,[]=>some false
 |a::r,b::t=>(lh a b).bind fun x=>(xH r t).bind fun y=>some (x&&y)
noncomputable def jR:D→D→Option Bool
 |.tup ds,.tup es=>xH ds es
 |.dk ks,.dk ls=>lh (.dk ks) (.dk ls)
 |_,_=>none
noncomputable def gH(ds es:List D)(j:Nat):Bool:=match ds[j]?,es[j]? with
 |some a,some c=>(lh a c).getD false
 |_,_=>false
theorem Fo:∀{ds es:List D}{b:Bool},xH ds es=some b→(∀(j:Nat) a c,ds[j]?=some a→es[j]?=some c→lh a c=some (gH ds es j))∧b=((List.range (min ds.length es.length)).all (gH ds es)&&ds.length==es.length)
  |[],[],b,h=>by cases h;exact⟨fun j a c e=>by simp at e,rfl⟩
  |[],_::_,b,h=>by
    cases h
    refine⟨fun j a c e=>by simp at e,?_⟩
    simp
  |_::_,[],b,h=>by
    cases h
    refine⟨fun j a c _ e=>by simp at e,?_⟩
    simp
  |a::r,c::t,b,h=>by
    obtain⟨x,ex,h⟩:=ao h
    obtain⟨y,ey,h⟩:=ao h
    cases h
    obtain⟨h1,h2⟩:=Fo ey
    have p0:gH (a::r) (c::t) 0=x:=by simp[gH,ex]
    have pS:∀j,gH (a::r) (c::t) (j+1)=gH r t j:=fun j=>by simp[gH]
    refine⟨fun j a' c' e1 e2=>?_,?_⟩
    · cases j with
      |zero =>
        simp only[List.getElem?_cons_zero,Option.some.injEq]at e1 e2
        subst e1 e2
        rw[p0];exact ex
      |succ j =>
        rw[pS]
        exact h1 j a' c' (by simpa using e1) (by simpa using e2)
    · have em:min (a::r).length (c::t).length=min r.length t.length+1:=by simp only[List.length_cons];omega
      have el:((a::r).length==(c::t).length)=(r.length==t.length):=by simp
      have ef:(gH (a::r) (c::t))∘Nat.succ=gH r t:=funext pS
      rw[em,List.range_succ_eq_map,jE,List.all_map,p0,ef,el,h2,Bool.and_assoc]
theorem zy:∀(ds:List D),cv ds=ds.map toPy
 |[]=>by simp[cv]
 |d::ds=>by simp[cv,zy ds]
theorem zp:∀{ks:List (Key×D)}{i:Nat}{k:Key}{d:D},(ks.map (·.1)).Nodup→ks[i]?=some (k,d)→bZ ks k=some d
 |[],_,_,_,_,e=>by simp at e
 |p::ks,0,k,d,_,e=>by
  simp only[List.getElem?_cons_zero,Option.some.injEq]at e
  subst e
  simp[bZ]
 |p::ks,i+1,k,d,hn,e=>by
  have e':ks[i]?=some (k,d):=by simpa using e
  rw[bF,iQ]at hn
  have ne:p.1≠k:=fun z=>hn.1 (de.mpr ⟨(k,d),fB e',z.symm⟩)
  have:=zp hn.2 e'
  simpa[bZ,List.find?_cons,ne]using this
theorem zq{ls:List (Key×D)}:∀{ks:List (Key×D)},(∀kd∈ks,∃e,bZ ls kd.1=some e∧PyData.eqv (toPy kd.2) (toPy e)=true)→hitsD ls ks=true
  |[],_=>rfl
  | (k,d)::r,h=>by
    obtain⟨e,h1,h2⟩:=h (k,d) cL
    simp only[hitsD]
    simp only at h1 h2
    rw[h1]
    simp only[h2,Bool.true_and]
    exact zq fun kd m=>h kd (cT _ m)
theorem sk{ds:List D}(h:gw ds=true):cC ds=true∧∀d∈ds,plain d=true∧(toPy d).depth≤40:=by
 simp only[gw,Bool.and_eq_true,List.all_eq_true,decide_eq_true_eq]at h
 have go:∀{ds:List D},cC ds=true→∀d∈ds,plain d=true:=by
  intro ds
  induction ds with
  |nil=>intro _ d m;cases m
  |cons a r ih =>
   intro h d m
   have h':plain a=true∧cC r=true:=by simpa[cC]using h
   rcases fK.mp m with rfl|m
   ·exact h'.1
   ·exact ih h'.2 d m
 exact⟨h.1,fun d m=>⟨go h.1 d m,h.2 d m⟩⟩
section
variable {X:Cx}{pins:List (Addr×Obj)}{σ:L2.St}{H:Hp}{s:Shared}{N N':Addr→Prop}{A:Around}{a b:Addr}{kvs my:List (Key×V)}{ks ls:List (Key×D)}
theorem Gi(I:L2.Inv X pins σ H s)(hu:A.units+41<cLine){mr:List (Key×Value)}(La:KV my mr)(Lb:Ent X.K N' H my ls)(jH:gw (ls.map (·.2))=true):∀{kvs:List (Key×V)}{ks:List (Key×D)}{vs:List (Key×Value)},KV kvs vs→Ent X.K N H kvs ks→gw (ks.map (·.2))=true→PySem.W.KeqHits A s mr vs (hitsD ls ks)
  |[],ks,_,.nil,en,_=>by
    cases ks with
    |nil=>exact .nil
    |cons _ _=>exact absurd en.len (by simp)
  |p::kvs,ks,q::vs,.cons h t,en,sl=>by
    cases ks with
    |nil=>exact absurd en.len (by simp)
    |cons z ks =>
      obtain⟨e,r,u9⟩:=en.cons_inv
      obtain⟨pl,pd⟩:=sk sl
      have pC:gw (ks.map (·.2))=true:=by
        simp only[gw,List.map_cons,cC,Bool.and_eq_true,List.all_cons]at sl ⊢
        exact⟨sl.1.2,sl.2.2⟩
      have ih:=Gi I hu La Lb jH t u9 pC
      obtain⟨k,d⟩:=z
      obtain⟨k2,u⟩:=q
      obtain⟨k3,x⟩:=p
      obtain⟨h1,h2⟩:=h
      simp only at e h1 h2 r
      subst e h1
      have rel:=La.val k3
      simp only[hitsD]
      rcases Lb.val k3 with⟨z1,z2⟩|⟨d',v',z1,z2,r'⟩
      · rw[z2]at rel
        rw[z1]
        refine .miss ?_
        cases w:valueAt mr k3 with
        |none=>rfl
        |some y=>rw[w]at rel;exact rel.elim
      · rw[z2]at rel
        rw[z1]
        cases w:valueAt mr k3 with
        |none=>rw[w]at rel;exact rel.elim
        |some y =>
          rw[w]at rel
          have m':d'∈ls.map (·.2):=by
            unfold bZ at z1
            cases f:ls.find? fun kv=>decide (kv.1=k3) with
            |none=>rw[f]at z1;cases z1
            |some kd=>rw[f]at z1;cases z1;exact de.mpr ⟨kd,Kg f,rfl⟩
          have m:d∈((k3,d)::ks).map (·.2):=cL
          refine .hit w (Dn.kx I (jm (pd d m).1 r) (jm ((sk jH).2 d' m').1 r') h2 rel ?_) ih
          have:=(pd d m).2
          omega
theorem Gj(I:L2.Inv X pins σ H s)(hu:A.units+42<cLine)(ha:Rd H a (.dK kvs))(hb:Rd H b (.dK my))(ea:Ent X.K N H kvs ks)(eb:Ent X.K N' H my ls)(sa:gw (ks.map (·.2))=true)(sb:gw (ls.map (·.2))=true){E:Value→Shared→Prop}{Q:Value→Shared→Prop} :
  (Q (.bool (ks.length==ls.length&&hitsD ls ks)) s→wpAny (model X.prog X.w) A (compareOp .Eq (.ref a) (.ref b)) Q E s)∧(Q (.bool (!(ks.length==ls.length&&hitsD ls ks))) s→wpAny (model X.prog X.w) A (compareOp .NotEq (.ref a) (.ref b)) Q E s):=by
 obtain⟨z,hd,vs,rel,dd⟩:=iu I.az ha
 obtain⟨z',jI,mr,JM,fO⟩:=iu I.az hb
 have hits:=Gi (A:=A.in1) I (show A.units+1+41<cLine by omega) JM eb sb rel ea sa
 rw[←ea.len,←eb.len,rel.length,JM.length]
 exact⟨fun q=>PySem.W.keq_eq hd jI dd fO (by omega) (fun _=>hits) q,fun q=>PySem.W.keq_ne hd jI dd fO (by omega) (fun _=>hits) q⟩
theorem RA(I:L2.Inv X pins σ H s)(ha:Rd H a (.dK kvs))(hb:Rd H a (.dK my))(ea:Ent X.K N H kvs ks)(eb:Ent X.K N' H my ls)(sa:gw (ks.map (·.2))=true)(sb:gw (ls.map (·.2))=true):(ks.length==ls.length&&hitsD ls ks)=true:=by
 have e:kvs=my:=by
  rcases ha with ha|⟨o,ha⟩<;>rcases hb with hb|⟨o',hb⟩<;>rw[ha]at hb<;>cases hb<;>rfl
 subst e
 obtain⟨z,hd,vs,rel,_,_,_,_,_,_,_,_,nd⟩:=iu I.az ha
 rw[←rel.keys]at nd
 have ek:ks.map (·.1)=ls.map (·.1):=ea.1.symm.trans eb.1
 have ev:(ks.map (·.2)).map toPy=(ls.map (·.2)).map toPy:=by
  rw[←zy,←zy]
  exact bG.unique I (p5 (sk sa).1 ea.2) (p5 (sk sb).1 eb.2)
 have el:ks.length=ls.length:=by rw[←ea.len,←eb.len]
 rw[el,beq_self_eq_true,Bool.true_and]
 refine zq fun kd m=>?_
 obtain⟨i,hi⟩:=List.getElem?_of_mem m
 obtain⟨hl,_⟩:=bt.mp hi
 have kR:i<ls.length:=el▸hl
 have hk:kd.1=(ls[i]).1:=by
  have w:=cP (·[i]?) ek
  simpa[List.getElem?_map,hi,List.getElem?_eq_getElem kR]using w
 have hv:toPy kd.2=toPy (ls[i]).2:=by
  have w:=cP (·[i]?) ev
  simpa[List.getElem?_map,hi,List.getElem?_eq_getElem kR]using w
 refine⟨(ls[i]).2,?_,?_⟩
 ·rw[hk]
  exact zp (i:=i) (by rw[←eb.1];exact nd) (by rw[bO kR])
 ·rw[←hv]
  obtain⟨v,yG,r⟩:=ea.2.get (i:=i) (d:=kd.2) (by rw[cE,hi];rfl)
  exact Dn.refl (jm ((sk sa).2 kd.2 (de.mpr ⟨kd,m,rfl⟩)).1 r)
theorem Uw(I:L2.Inv X pins σ H s)(hu:A.units+42<cLine){d e:D}{x:Bool}(h:lh d e=some x){v v':V}{u u':Value}(rd:Rp X.K N H v d)(re:Rp X.K N' H v' e)(rv:RelV v u)(rG:RelV v' u'):yI X.prog X.w A s u u' x:=by
 unfold lh at h
 split at h
 ·split at h
  ·rename_i ks ls ok
   cases h
   rw[gx]at ok
   cases rd with
   |@dk p kvs _ ha _ k1 q1=>cases re with
    |@dk p' my _ hb _ k2 q2 =>
     cases rv
     cases rG
     by_cases z:p=p'
     ·subst z
      rw[RA I ha hb ⟨k1,q1⟩ ⟨k2,q2⟩ ok.1 ok.2]
      exact fun E Q q=>qR _ X.prog X.w E Q q
     ·intro E Q q
      unfold eqBool
      refine lS (wpAny_ite_split (fun w=>absurd (by have:=eq_of_beq w;injection this) z) fun _=>av ?_)
      exact(Gj (A:=A) I hu ha hb ⟨k1,q1⟩ ⟨k2,q2⟩ ok.1 ok.2).1 (iO q)
  ·cases h
 ·split at h
  ·rename_i ok
   cases h
   rw[gx,gx,decide_eq_true_eq]at ok
   exact fun E Q q=>Dn.kx I (jm ok.1.1 rd) (jm ok.1.2 re) rv rG (A:=A) (by have:=ok.2;omega) X.prog X.w E Q q
  ·cases h
theorem RB(I:L2.Inv X pins σ H s)(hu:A.units+44<cLine){ds es:List D}{x:Bool}(h:xH ds es=some x){xs ys:List V}(qa:bf X.K H a xs)(qb:bf X.K H b ys)(ra:aq X.K N H xs ds)(rb:aq X.K N' H ys es){E:Value→Shared→Prop}{Q:Value→Shared→Prop} :
  (Q (.bool x) s→wpAny (model X.prog X.w) A (compareOp .Eq (.ref a) (.ref b)) Q E s)∧(Q (.bool (!x)) s→wpAny (model X.prog X.w) A (compareOp .NotEq (.ref a) (.ref b)) Q E s):=by
 obtain⟨h1,h2⟩:=Fo h
 obtain⟨its,rv,pl,_⟩:=I.tuple qa
 obtain⟨pI,gB,X7,_⟩:=I.tuple qb
 have la:its.toArray.size=ds.length:=by rw[←ra.len,rv.length];simp
 have lb:pI.toArray.size=es.length:=by rw[←rb.len,gB.length];simp
 have he:∀j (j1:j<its.toArray.size) (j2:j<pI.toArray.size),yI X.prog X.w A.in1 s its.toArray[j] pI.toArray[j] (gH ds es j):=fun j j1 j2=>by
  obtain⟨v,hv,r⟩:=ra.get (i:=j) (d:=ds[j]'(la▸j1)) (by simp[la▸j1])
  obtain⟨v',cF,r'⟩:=rb.get (i:=j) (d:=es[j]'(lb▸j2)) (by simp[lb▸j2])
  obtain⟨u,X8,ru⟩:=rv.get hv
  obtain⟨u',X9,Ya⟩:=gB.get cF
  have e1:its.toArray[j]=u:=by
   have:its[j]'(by simpa using j1)=u:=(bt.mp X8).2
   simpa using this
  have e2:pI.toArray[j]=u':=by
   have:pI[j]'(by simpa using j2)=u':=(bt.mp X9).2
   simpa using this
  rw[e1,e2]
  exact Uw (A:=A.in1) I (show A.units+1+42<cLine by omega) (h1 j _ _ (by simp[la▸j1]) (by simp[lb▸j2])) r r' ru Ya
 obtain⟨⟨c1,d1,t1,s1⟩,o1,k1,n1,m1⟩:=id pl
 obtain⟨⟨c2,d2,t2,s2⟩,o2,k2,n2,m2⟩:=id X7
 simp only at k1 m1 k2 m2
 subst k1 m1 k2 m2
 have e:x=((List.range (min its.toArray.size pI.toArray.size)).all (gH ds es)&&its.toArray.size==pI.toArray.size):=by rw[la,lb];exact h2
 refine⟨fun q=>?_,fun q=>?_⟩
 ·refine wpAny_richCompare_same_room (op:=.Eq) ⟨_,o1,rfl⟩ ⟨_,o2,rfl⟩ PySem.F.slot_tuple_eq (qT PySem.F.slot_tuple_eq ⟨_,o1,rfl⟩ PySem.F.entry_tuple_eq (PySem.F.args_tuple_eq_2 _ _) (WZ X.prog X.w a b _ _ _ _ _ _ _ _ (gH ds es)) ⟨o1,o2,he,?_⟩) (by omega)
  rw[←e]
  show Value.bool x≠Value.notImplemented∧Q (.bool x) s
  exact⟨(fun z=>nomatch z),q⟩
 ·refine wpAny_richCompare_same_room (op:=.NotEq) ⟨_,o1,rfl⟩ ⟨_,o2,rfl⟩ PySem.F.slot_tuple_ne (qT PySem.F.slot_tuple_ne ⟨_,o1,rfl⟩ PySem.F.entry_tuple_ne (PySem.F.args_tuple_ne_2 _ _) (W0 X.prog X.w a b _ _ _ _ _ _ _ _ (gH ds es)) ⟨o1,o2,he,?_⟩) (by omega)
  rw[←e]
  show Value.bool (!x)≠Value.notImplemented∧Q (.bool (!x)) s
  exact⟨(fun z=>nomatch z),q⟩
end
noncomputable def Bk(K:PySem.W.Frag)(neg:Bool):R2:=fun x y H Q=>∃a b r,Rp K (fun _=>True) H x a∧Rp K (fun _=>True) H y b∧jR a b=some r∧Q (.bl (if neg then !r else r)) H
section
variable {X:Cx}{K:PySem.W.Frag}
theorem Fp{pins:List (Addr×Obj)}{σ:L2.St}{H:Hp}{s:Shared}{A:Around}(I:L2.Inv X pins σ H s)(hu:A.units+44<cLine){a b:D}{r:Bool}(h:jR a b=some r){x y:V}{v u:Value}(ra:Rp X.K (fun _=>True) H x a)(rb:Rp X.K (fun _=>True) H y b)(rx:RelV x v)(ry:RelV y u){E:Value→Shared→Prop}{Q:Value→Shared→Prop} :
  (Q (.bool r) s→wpAny (model X.prog X.w) A (compareOp .Eq v u) Q E s)∧(Q (.bool (!r)) s→wpAny (model X.prog X.w) A (compareOp .NotEq v u) Q E s):=by
 unfold jR at h
 split at h
 ·cases ra with
  |tup qa ra=>cases rb with
   |tup qb rb =>
    cases rx
    cases ry
    exact RB I hu h qa qb ra rb
 ·cases ra with
  |dk ha _ k1 q1=>cases rb with
   |dk hb _ k2 q2 =>
    cases rx
    cases ry
    simp only[lh]at h
    split at h
    ·rename_i ok
     cases h
     rw[gx]at ok
     exact Gj I (by omega) ha hb ⟨k1,q1⟩ ⟨k2,q2⟩ ok.1 ok.2
    ·cases h
 ·cases h
theorem RC(h:X.K=K)(hu:X.A.units+64<cLine):bA X (compareOp .Eq) (Bk K false):=by
 subst h
 intro pins s σ H x y v u Q I rx ry h
 obtain⟨a,b,r,ra,rb,e,q⟩:=h
 exact(Fp I (by omega) e ra rb rx ry).1 ⟨.bl _,H,I,rfl,q⟩
theorem RD(h:X.K=K)(hu:X.A.units+64<cLine):bA X (compareOp .NotEq) (Bk K true):=by
 subst h
 intro pins s σ H x y v u Q I rx ry h
 obtain⟨a,b,r,ra,rb,e,q⟩:=h
 exact(Fp I (by omega) e ra rb rx ry).2 ⟨.bl _,H,I,rfl,q⟩
noncomputable def iK(neg:Bool):M×D→M×D→Option (M×D):=fun a b=>(jR a.2 b.2).bind fun r=>some (.fr,.bl (if neg then !r else r))
theorem Hm{neg:Bool}:JR K (Bk K neg) (iK neg):=by
 intro H₀ O H x y a b Q m d _ _ h1 h2 h q
 obtain⟨r,er,h⟩:=ao h
 cases h
 exact⟨a.2,b.2,r,h1.weak,h2.weak,er,q _ H (aA.refl H) dG⟩
end
theorem ints_of:∀{ns:List Int}{us:List Value},Vals (ns.map V.int) us→IntsAre us ns
 |[],_,.nil=>.nil
 |n::ns,_,.cons ⟨t,e⟩ r=>by subst e;exact .cons n t (ints_of r)
section
variable {K:PySem.W.Frag}{H:Hp}
end
structure xI (K:PySem.W.Frag)(x:Str)(st:Stmt)(f:Addr)(fd:FuncData):Prop where
 ex:∃(oc:Value) (od:Option Addr) (dV kV doc pm:Value) (an:Option Addr) (bq ct:Value) (iT:Array (Option Value)),
  fd=PySem.W.fnOf x x (eE st) (dn st) (bP st) dV kV doc pm an bq ct∧K.lookup f=some ⟨oc,od,.func fd,iT⟩∧PySem.W.codeIn K bq x=true
 kp:PySem.W.keepIn K (.ref f)=true
theorem xI.ok{P:Program}{w:World}{K:PySem.W.Frag}{mg:Str→Option Value}{base:Heap}{x:Str}{st:Stmt}{f:Addr}{fd:FuncData}{N ps:List Str}{k:Nat}{sp:Sp}(F:xI K x st f fd)(S:sr N ps (bP st))(len:∀vs H Q E,sp vs H Q E→vs.length=ps.length)
  (sZ:∀(bq:Value) (A:Around) (outer:List Env) (s:Shared) (H:Hp) (vs:List V) (Q:VK) (E:XK),dw k (A.deeper (envOfC x (bP st) s.heap.objs.size f bq))→sp vs H Q E →
   ∃t,f6 (lO kZ P w K mg base N x (bP st) f bq A outer s H E).pf (dn st) t∧t { nx:=fun _ H'=>Q .non H',rt:=Q } (L2.start N vs) H):ku P w K mg base kZ (k+1) f fd ps sp:=by
 obtain⟨oc,od,dV,kV,doc,pm,an,bq,ct,iT,rfl,lk,dM⟩:=F.ex
 refine HX lk dM S len fun A outer s H vs Q E hr jJ=>?_
 obtain⟨t,h,q⟩:=sZ bq A outer s H vs Q E hr jJ
 exact⟨t,h.pf,q⟩
structure Zv (K:PySem.W.Frag)(mg:Str→Option Value)(x:Str)(st:Stmt)(ps:List Str)(dv:Value)(f:Addr)(fd:FuncData):Prop where
 mg:mg x=some (.ref f)
 fn:xI K x st f fd
 bd:Binds K fd ps []
 yJ:Binds K fd ps [dv]
end J
namespace J
open PySem PySem.Spec PyProof.Rows L2
open Builtin Builtin.Str
theorem MA{X:Cx}(hc:X.calm=true):gp X (.builtin "any") (fun xs H Q=>∃(p:Addr) (bs:List Bool),xs=[.ref p]∧bw X.K H p (bs.map V.bl)∧Q (.bl (bs.any id)) H):=by
 intro pins s σ H xs us Q I r h
 obtain⟨p,bs,rfl,hq,q⟩:=h
 obtain⟨u,rfl,rx⟩:=vals1 r
 cases rx
 obtain⟨its,rv,pl,hz⟩:=I.list hq
 have hlen:bs.length=its.length:=by simpa using rv.length
 have uO:p≠s.heap.objs.size:=by
  obtain⟨o,n,e,_⟩:=pl
  exact cK (bz e)
 refine call_any_walk (wpAny_pyIter_list pl.isList ?_)
 refine⟨s.heap.objs.size,_,_,_,_,_,fun i=>bs.getD i true,rfl,Walks.list (show X.A.in1.handled=none from I.ok.hd hc) s.heap.objs.size p uO its.toArray,⟨⟨_,eU _ rfl,rfl,rfl⟩,?_⟩,fun i v s' Q' E' hv Cw=>?_,fun h' tk kp=>?_⟩
 ·obtain⟨o,n,e,e2,e3,e4⟩:=pl
  exact⟨o,cy _ e,e2,n,e4⟩
 ·have cF:its[i]?=some v:=by simpa using hv
  have hi:i<its.length:=(bt.mp cF).1
  have hb:(bs.map V.bl)[i]?=some (V.bl (bs.getD i true)):=by
   rw[cE,bO (by omega),qV,bO (by omega)];rfl
  obtain⟨u,hu,ru⟩:=rv.get hb
  rw[cF]at hu
  cases hu
  cases (show v=Value.bool _ from ru)
  exact iO Cw
 ·have eb:(List.range its.toArray.size).any (fun i=>bs.getD i true)=bs.any id:=by
   rw[fY,←hlen]
   conv=>rhs;rw[←range_getD bs true]
   rw[List.any_map];rfl
  refine⟨.bl (bs.any id),H,?_,?_,q⟩
  ·have I1:Inv X pins σ H { s with heap:=s.heap.push { cls:=.type "list_iterator",data:=.fields #[.ref p,.int 0 0] },toks:=s.toks }:=I.kept fun b o e=>cy _ e
   refine I1.turned (it:=s.heap.objs.size) (fun b o hb e=>kp b o (by simpa using hb) e) (I.az.fresh (aR _)) (Nat.ne_of_gt I.lt) (.inr I.sz) (fun x c e=>?_) fun z hz=>?_
   ·obtain⟨v,o,ho,_⟩:=I.cell x c e
    exact cK (bz ho)
   ·exact cK (bz (I.pin z hz).1)
  ·rw[eb];rfl
section
variable {K:PySem.W.Frag}{H:Hp}
noncomputable def oQ:List (M×D)→Option (M×D)
 |[(_,.lst ds)]=>(oO ds).bind fun bs=>some (.fr,.bl (bs.any id))
 |_=>none
theorem M9{X:Cx}(h:X.K=K)(hc:X.calm=true):gp X (.builtin "any") (fun xs H Q=>∃(p:Addr) (bs:List Bool),xs=[.ref p]∧bw K H p (bs.map V.bl)∧Q (.bl (bs.any id)) H):=by subst h;exact MA hc
theorem RG:jO K (fun xs H Q=>∃(p:Addr) (bs:List Bool),xs=[.ref p]∧bw K H p (bs.map V.bl)∧Q (.bl (bs.any id)) H) oQ:=by
 intro H₀ O H vs ak Q m d _ _ hv h q
 unfold oQ at h
 split at h
 ·obtain⟨bs,eb,h⟩:=ao h
  cases h
  obtain⟨v,rfl,hw⟩:=hv.one
  obtain⟨a,xs,rfl,r,s⟩:=hw.lst
  rw[zV s eb]at r
  exact⟨_,_,rfl,r,q _ H (aA.refl H) dG⟩
 ·cases h
end
end J
namespace J
open PySem PySem.Spec PyProof.Rows L2
section
variable {prog:Program}{w:World}{A:Around}{E:Value→Shared→Prop}{s:Shared}{d:Addr}
end
section
variable {prog:Program}{w:World}{A:Around}{E:Value→Shared→Prop}{s:Shared}
inductive wY {κ:Type}[DecidableEq κ](A:Around)(s:Shared)(kb:List (κ×Addr×Value)):List (κ×Addr×Value)→Bool→Prop
 |nil:wY A s kb [] true
 |miss {k:κ}{p:Addr×Value}{r:List (κ×Addr×Value)}:atKey kb k=none→wY A s kb ((k,p)::r) false
 |hit {k:κ}{p q:Addr×Value}{r:List (κ×Addr×Value)}{e b:Bool}:atKey kb k=some q→SeqAt.EqAt A s p.2 q.2 e→wY A s kb r b→wY A s kb ((k,p)::r) (e&&b)
end
def Raw(h:Heap)(d:Addr)(es:Array DictEntry)(ep:Nat):Prop:=∃o,h.get? d=some o∧o.ExactDict∧o.data=.dict es ep
theorem Raw.ty{s:Shared}{d:Addr}{es:Array DictEntry}{ep:Nat}(h:Raw s.heap d es ep):s.TypeIs (.ref d) "dict" := let ⟨o,a,b,_⟩:=h;⟨o,a,b.1⟩
section
variable {prog:Program}{w:World}{A:Around}{E:Value→Shared→Prop}{s:Shared}{d it:Addr}{es:Array DictEntry}{ep i n:Nat}
theorem N2 {Q:Value→Shared→Prop} (lo:(d==sysModules)=false) (r:Raw s.heap d es ep) (hQ:Q (.ref s.heap.objs.size) { s with heap:=s.heap.push { cls:=.type "dict_values",data:=.fields #[.ref d] } }):wpAny (model prog w) A (call (.builtin "dict.values") [.ref d]) Q E s:=by
 refine qT PySem.F.slot_dict_values r.ty PySem.F.entry_dict_values (PySem.F.args_dict_values_1 _) (S:=fun _ R s=>Raw s.heap d es ep∧R (.ok (.ret (.ref s.heap.objs.size))) { s with heap:=s.heap.push { cls:=.type "dict_values",data:=.fields #[.ref d] } }) (.of_wp fun A R s ⟨r,h⟩=>?_) ⟨r,hQ⟩
 refine av ?_
 unfold Builtin.Dict.noArgs
 refine av (wpAny_notOrdered_dict r.ty (show wpAny _ _ (pure d) _ _ s from aO ?_))
 show wpAny _ _ (Builtin.Dict.showsAll d >>= _) _ _ s
 rw[Builtin.Dict.showsAll,if_neg (by rw[lo];exact aZ)]
 exact av (aO (av (kJ (aO ⟨_,rfl,h⟩))))
end
noncomputable def tY:HO→Bool
 |.dK _=>true
 |.dT _=>true
 |_=>false
noncomputable def oR:HO→List V
 |.dK kvs=>kvs.map (·.2)
 |.dT kvs=>kvs.map (·.2)
 |_=>[]
theorem Hn{u:HO}(h:tY u=true):(∀o v,u≠.aK o v)∧(∀xs,u≠.tup xs)∧(∀ps,u≠.kM ps)∧∀x,u≠.own x:=by
 cases u<;>first | (cases h;done)|exact⟨(fun _ _ z=>nomatch z),(fun _ z=>nomatch z),(fun _ z=>nomatch z),(fun _ z=>nomatch z)⟩
section
variable {X:Cx}{pins:List (Addr×Obj)}{σ:L2.St}{H:Hp}{s:Shared}{a it:Addr}
theorem Ux{P:Program}{w:World}{h:Heap}{u:HO}(hu:tY u=true)(ok:bT P w H h a u):∃o es ep,h.get? a=some o∧o.ExactDict∧o.data=.dict es ep∧es.size=(oR u).length∧(∀(i:Nat) x,(oR u)[i]?=some x→∃e,es[i]?=some e∧RelV x e.val)∧(a==sysModules)=false:=by
 cases u<;>try (cases hu;done)
 ·rename_i kvs
  obtain⟨z,lo,vs,rv,o,es,ep,ho,ex,hd,hk,hp,hn⟩:=ok
  refine⟨o,es,ep,ho,ex,hd,?_,fun i x e=>?_,lo⟩
  ·have e1:=hp.length
   have e2:=rv.length
   simp only[Array.length_toList]at e1
   simp[oR,e1,e2]
  ·simp only[oR,List.getElem?_map,Option.map_eq_some_iff]at e
   obtain⟨kv,C0,rfl⟩:=e
   obtain⟨v,h1,h2⟩:=wt rv C0
   have hi:i<es.size:=by
    have:=(bt.mp h1).1
    have e1:=hp.length
    simp only[Array.length_toList]at e1
    omega
   exact⟨es[i],by simp[hi],by rw[(hp.get? (e:=es[i]) (by simp[hi]) h1).2];exact h2⟩
 ·rename_i kvs
  obtain⟨z,lo,xs,r,o,es,ep,ho,ex,hd,he,hn⟩:=ok
  refine⟨o,es,ep,ho,ex,hd,?_,fun i x e=>?_,lo⟩
  ·rw[←BO,he,aU,←cJ r];simp[oR]
  ·simp only[oR,List.getElem?_map,Option.map_eq_some_iff]at e
   obtain⟨kv,C0,rfl⟩:=e
   have go:∀{l:List (List Key×V)}{m:List (List Key×Addr×Value)}{i:Nat}{kv:List Key×V},Paired (fun(p:List Key×V) (q:List Key×Addr×Value)=>p.1=q.1∧H q.2.1=some (.tup (p.1.map kV))∧RelV p.2 q.2.2) l m→l[i]?=some kv→∃y,m[i]?=some y∧RelV kv.2 y.2.2:=by
    intro l m i kv q
    induction q generalizing i with
    |nil=>intro e;simp at e
    |cons h t ih =>
     intro e
     cases i with
     |zero=>simp at e;subst e;exact⟨_,rfl,h.2.2⟩
     |succ i=>exact ih (by simpa using e)
   obtain⟨y,h1,h2⟩:=go r C0
   exact⟨entryOfKey (tupleKind (cu P w)) y,by rw[←B1,he,cE,h1];rfl,h2⟩
theorem II{P:Program}{w:World}{h:Heap}{H':Hp}{u:HO}(hu:tY u=true)(ok:bT P w H h a u)(nt:∀b xs,H b=some (.tup xs)→H' b=some (.tup xs)):bT P w H' h a u:=by
 cases u<;>try (cases hu;done)
 ·exact ok
 ·obtain⟨z,lo,xs,r,m⟩:=ok
  exact⟨z,lo,xs,Paired.kh r fun p q z=>⟨z.1,nt _ _ z.2.1,z.2.2⟩,m⟩
noncomputable def AI(i:Nat)(t:TS):TS:=fun Ds σ H=>∃a u,σ[i]?=some (some (.ref a))∧tY u=true ∧
 ((H a=some u∧∀o,t (JK a o u Ds) σ (upd H a (.aK o u)))∨((∃o,H a=some (.aK o u))∧t Ds σ H))
theorem RH{st:Stmt}{t:TS}{i:Nat}(h:eC X st t):eC X st (AI i t):=by
 refine⟨fun pins s σ H Ds I ht=>?_⟩
 obtain⟨a,u,hs,hu,⟨e,ht⟩|⟨_,ht⟩⟩:=ht
 ·have ok:=I.az a _ e
  obtain⟨n1,n2,n3,n4⟩:=Hn hu
  obtain⟨o,_,_,ho,_⟩:=Ux hu ok
  have hf:∀o v,X.H₀ a≠some (.aK o v):=fun o v z=>by rw[I.base.fV a o v z]at e;cases e;exact n1 _ _ rfl
  have nt:∀{H':Hp}{z z':HO},H' a=some z→(∀xs,z≠.tup xs)→∀b xs,H' b=some (.tup xs)→upd H' a z' b=some (.tup xs):=fun e' nz b xs q=>by
   rw[ay (lF q e' (fun w=>nz xs w.symm))];exact q
  have I1:L2.Inv X pins σ (upd H a (.aK o u)) s:=wo I e n2 n3 n4 hf ⟨ho,II hu ok (nt e n2)⟩
  have th:∀{σ':L2.St}{H':Hp}{s':Shared},L2.Inv X pins σ' H' s'→H' a=some (.aK o u)→L2.Inv X pins σ' (upd H' a u) s':=fun I' e' =>
   wo I' e' (fun _ z=>nomatch z) (fun _ z=>nomatch z) (fun _ z=>nomatch z) hf (II hu (I'.az a _ e').2 (nt e' (fun _ z=>nomatch z)))
  refine aC (h.go pins s σ _ _ I1 (ht o)) fun f s' q=>?_
  cases f with
  |next=>obtain⟨σ',H',I',e',q⟩:=q;exact⟨σ',_,th I' e',q⟩
  |brk=>obtain⟨σ',H',I',e',q⟩:=q;exact⟨σ',_,th I' e',q⟩
  |cont=>obtain⟨σ',H',I',e',q⟩:=q;exact⟨σ',_,th I' e',q⟩
  |ret v=>obtain⟨v',σ',H',I',rG,e',q⟩:=q;exact⟨v',σ',_,th I' e',rG,q⟩
 ·exact h.go pins s σ H Ds I ht
end
end J
namespace J
open PySem L2
section
variable {K:PySem.W.Frag}{N:Addr→Prop}{H H' H₀ H₁:Hp}{I:Nat→Option Addr}{O:Addr→Prop}{σ:L2.St}{env:Ev}
noncomputable def Yb:D→Option (List D)
 |.dk ks=>some (ks.map (·.2))
 |.dt ks=>some (ks.map (·.2))
 |_=>none
noncomputable def DR(K:PySem.W.Frag)(N:Addr→Prop)(H:Hp):HO→D→Prop
 |.dK kvs,.dk ks=>Ent K N H kvs ks
 |.dT kvs,.dt ks=>Ent K N H kvs ks
 |_,_=>False
theorem DR.dc{u:HO}{d:D}(h:DR K N H u d):tY u=true:=by cases u<;>cases d<;>first|rfl|exact h.elim
theorem DR.vs{u:HO}{d:D}{ds:List D}(h:DR K N H u d)(e:Yb d=some ds):aq K N H (oR u) ds:=by
 cases u<;>cases d<;>first|exact h.elim|skip
 ·cases e;exact h.2
 ·cases e;exact h.2
theorem DR.mono{N':Addr→Prop}{u:HO}{d:D}(h:DR K N H u d)(w:∀{vs:List V}{ds:List D},aq K N H vs ds→aq K N' H' vs ds):DR K N' H' u d:=by
 cases u<;>cases d<;>first|exact h.elim|exact⟨h.1,w h.2⟩
noncomputable def tG(src:D→Option (List D))(i:Nat)(g:M×D→Ev→Option Ev)(b:Ev→Option Fl):Ev→Option Fl:=fun e=>match e[i]? with
 |some (some (m,d))=>if dB m=true then (src d).bind fun ds=>forL g b m ds e else none
 |_=>none
theorem RJ{i:Nat}{wi:TI}{src:D→Option (List D)}{g:TG}{tb:TS}{fg:M×D→Ev→Option Ev}{b:Ev→Option Fl}(hd:∀d ds,src d=some ds→(∃ks,d=.dk ks)∨∃ks,d=.dt ks)
  (hw:∀(G:Hp) (O:Addr→Prop) (H1:Hp) (σ:L2.St) (m:M) (a:Addr) (o:Obj) (u:HO) (d:D) (ds:List D),dB m=true→σ[i]?=some (some (.ref a))→H1 a=some (.aK o u)→¬O a→DR K (NM G O m) H1 u d→src d=some ds→(∀a o,O a→H1 a=some o→¬fP o)→∀R',(∀J H',aA H1 H'→iH K G O J H' m ds→R' J H')→wi σ H1 R')
  (hg:JG K g fg) (hb:JS K tb b):JS K (AI i (km wi g tb)) (tG src i fg b):=by
 intro H₀ I O H σ env Ds fl R e q
 unfold tG at e
 split at e
 ·rename_i m d he
  split at e
  ·rename_i hm
   obtain⟨ds,ed,e⟩:=ao e
   obtain⟨v,hv,_,hz⟩:=R.e.at he
   have rH:∃a u,v=.ref a∧Rd H a u∧¬O a∧DR K (NM H₀ O m) H u d:=by
    rcases hd d ds ed with⟨_,rfl⟩|⟨_,rfl⟩
    ·cases m<;>try (cases hm;done)
     ·cases hz with|dk r n e q=>exact⟨_,_,rfl,r,n,e,q⟩
     ·cases hz with|dk r n e q=>exact⟨_,_,rfl,r,n.1,e,q⟩
    ·cases m<;>try (cases hm;done)
     ·cases hz with|dt r n e q=>exact⟨_,_,rfl,r,n,e,q⟩
     ·cases hz with|dt r n e q=>exact⟨_,_,rfl,r,n.1,e,q⟩
   obtain⟨a,u,rfl,rd,na,dr⟩:=rH
   have hu:=dr.dc
   obtain⟨n1,n2,_,_⟩:=Hn hu
   have run:∀{G H1:Hp}{o:Obj}{Es:Ends},Rel K G I O H1 σ env→H1 a=some (.aK o u)→DR K (NM G O m) H1 u d→lP K G I O H1 Es fl→km wi g tb Es σ H1:=fun R1 e1 u9 q1 =>
    Fn hg hb R1 hm (hw _ _ _ σ m a _ u d ds hm hv e1 na u9 ed R1.e.on) e q1
   refine⟨a,u,hv,hu,?_⟩
   rcases rd with e1|⟨o,e1⟩
   ·refine .inl ⟨e1,fun o=>?_⟩
    have w:lg H (upd H a (.aK o u)):=⟨fun b v _ h=>by
     by_cases z:b=a
     ·subst z
      rcases h with h|⟨o',h⟩
      ·rw[e1]at h;cases h;exact .inr ⟨o,a9⟩
      ·rw[e1]at h;cases h;exact absurd rfl (n1 _ _)
     ·unfold Rd at h ⊢;rw[ay z];exact h,fun b xs h=>by rw[ay (lF h e1 (fun z=>n2 _ z.symm))];exact h⟩
    have nO:∀p,O p→p≠a:=fun p h z=>na (z▸h)
    have zz:∀b,H₀ b=none↔(fun b=>if b=a then (H₀ a).map (fun _=>HO.aK o u)else H₀ b) b=none:=fun b=>by
     by_cases z:b=a
     ·subst z;simp
     ·simp[z]
    have R1:Rel K (fun b=>if b=a then (H₀ a).map (fun _=>HO.aK o u)else H₀ b) I O (upd H a (.aK o u)) σ env:=by
     refine R.b5 w (fun p h=>ay (nO p h)) zz (fun b v h=>?_) fun b v n h=>?_
     ·by_cases z:b=a
      ·subst z;exact⟨_,a9⟩
      ·exact⟨v,by rw[ay z];exact h⟩
     ·by_cases z:b=a
      ·subst z
       simp only[if_true]at h
       cases q0:H₀ b with
       |none=>rw[q0]at h;cases h
       |some u0=>rw[q0]at h;cases h;exact a9
      ·simp only[z,if_false]at h
       rw[ay z];exact R.fr b v n h
    have back:∀{O':Addr→Prop}{H':Hp},aF O (upd H a (.aK o u)) O' H'→H' a=some (.aK o u)∧aF O H O' (upd H' a u) ∧
      (∀{σ':L2.St}{env':Ev},Rel K (fun b=>if b=a then (H₀ a).map (fun _=>HO.aK o u)else H₀ b) I O' H' σ' env'→Rel K H₀ I O' (upd H' a u) σ' env') ∧
      ∀{m:M}{d:D}{v:V},Val K (fun b=>if b=a then (H₀ a).map (fun _=>HO.aK o u)else H₀ b) O' HE H' m d v→Val K H₀ O' HE (upd H' a u) m d v:=fun {O' H'} st=>by
     obtain⟨ha,vd⟩:=st a _ a9 na
     have w':lg H' (upd H' a u):=⟨fun b v nf h=>by
      by_cases z:b=a
      ·subst z
       rcases h with h|⟨o',h⟩
       ·rw[ha]at h;cases h;cases nf
       ·rw[ha]at h;cases h;exact .inl a9
      ·unfold Rd at h ⊢;rw[ay z];exact h,fun b xs h=>by rw[ay (lF h ha (fun z=>nomatch z))];exact h⟩
     have ve:∀p,O' p→upd H' a u p=H' p:=fun p h=>ay fun z=>vd (z▸h)
     refine⟨ha,fun b v h n=>?_,fun R'=>?_,fun cF=>cF.b5 w' (fun _ p d N c=>?_) ve fun b=>(zz b).mpr⟩
     ·by_cases z:b=a
      ·subst z;rw[e1]at h;cases h;exact⟨a9,vd⟩
      ·obtain⟨h1,h2⟩:=st b v (by rw[ay z];exact h) n
       exact⟨by rw[ay z];exact h1,h2⟩
     ·refine R'.b5 w' ve (fun b=>(zz b).symm) (fun b v h=>?_) fun b v n h=>?_
      ·by_cases z:b=a
       ·subst z;exact⟨_,a9⟩
       ·exact⟨v,by rw[ay z];exact h⟩
      ·by_cases z:b=a
       ·subst z
        have h2:=R.fr b v n h
        rw[e1]at h2;cases h2;exact a9
       ·rw[ay z]
        exact R'.fr b v n (by simp only[z,if_false];exact h)
     ·refine ay fun z=>?_
      subst z
      cases d<;>simp only[Cell]at c
      all_goals (obtain⟨xs,q,_⟩:=c;rw[ha]at q;cases q)
    refine run R1 a9 (dr.mono fun r=>(r.b5 w).wk fun b n _=>?_) ?_
    ·cases m<;>try (cases hm;done)
     ·exact n
     ·exact⟨n.1,(zz b).mp n.2⟩
    ·cases fl with
     |nx e'=>exact fun O' H' σ' R' st=>⟨(back st).1,q _ _ _ ((back st).2.2.1 R') (back st).2.1⟩
     |bk e'=>exact fun O' H' σ' R' st=>⟨(back st).1,q _ _ _ ((back st).2.2.1 R') (back st).2.1⟩
     |ct e'=>exact fun O' H' σ' R' st=>⟨(back st).1,q _ _ _ ((back st).2.2.1 R') (back st).2.1⟩
     |rt e' m' d'=>exact fun O' H' σ' v R' st cF=>⟨(back st).1,q _ _ _ v ((back st).2.2.1 R') (back st).2.1 ((back st).2.2.2 cF)⟩
   ·exact .inr ⟨⟨o,e1⟩,run R e1 dr q⟩
  ·cases e
 ·cases e
end
end J
namespace J
open PySem PySem.Spec PyProof.Rows L2
noncomputable def keysOf:List D→Option (List Key)
 |[]=>some []
 |d::ds=>(keyOf d).bind fun k=>(keysOf ds).map fun ks=>k::ks
noncomputable def Bl:D→Option (List Key)
 |.tup ds=>if ds.length<4 then keysOf ds else none
 |_=>none
noncomputable def Bm:D→Option (List (List Key×D))
 |.dt ks=>some ks
 |_=>none
theorem Gk{d:D}{ks:List (List Key×D)}(h:Bm d=some ks):d=.dt ks:=by cases d<;>simp only[Bm]at h<;>cases h;rfl
section
variable {K:PySem.W.Frag}{N:Addr→Prop}{H H' H₀:Hp}{I:Nat→Option Addr}{O:Addr→Prop}{σ:L2.St}{env:Ev}
theorem Em:∀{ds:List D}{ks:List Key}{vs:List V},keysOf ds=some ks→aq K N H vs ds→vs=ks.map kV
 |[],_,_,e,.nil=>by cases e;rfl
 |d::ds,_,_,e,.cons h r=>by
  obtain⟨k,e1,e⟩:=ao e
  cases e2:keysOf ds with
  |none=>rw[e2]at e;cases e
  |some l=>rw[e2]at e;cases e;rw[Em e2 r,lB e1 h];rfl
theorem Fq{d:D}{ks:List Key}{v:V}(e:Bl d=some ks)(h:Rp K N H v d):∃b,v=.ref b∧H b=some (.tup (ks.map kV)):=by
 cases d<;>try (cases e;done)
 rename_i ds
 simp only[Bl]at e
 split at e
 ·rename_i hl
  cases h with
  |tup q r =>
   have:=r.len
   have z:=q.own (by omega)
   rw[Em e r]at z
   exact⟨_,rfl,z⟩
 ·cases e
theorem Val.dt{m:M}{ks:List (List Key×D)}{v:V}{Hb:Hp}(h:Val K H₀ O Hb H m (.dt ks) v):∃a kvs,v=.ref a∧Rd H a (.dT kvs)∧Ent K (NM H₀ O (aG m)) H kvs ks:=by
 cases m<;>simp only[Val,Cell]at h
 ·cases h with|dt r n e q=>exact⟨_,_,rfl,r,e,q⟩
 ·cases h with|dt r n e q=>exact⟨_,_,rfl,r,e,q⟩
 ·obtain⟨p,rfl,_,_,_,xs,q,e,r⟩:=h;exact⟨_,_,rfl,.inl q,e,r.wk fun a h _=>h.1⟩
 ·obtain⟨p,rfl,_,_,xs,q,e,r⟩:=h;exact⟨_,_,rfl,.inl q,e,r⟩
 ·obtain⟨p,rfl,_,xs,q,e,r⟩:=h;exact⟨_,_,rfl,.inl q,e,r⟩
 ·cases h with|dt r n e q=>exact⟨_,_,rfl,r,e,q⟩
 ·obtain⟨p,qs,aJ,rfl,e2,_⟩:=h;cases e2
 ·obtain⟨_,_,_,_,e2,_⟩:=h;cases e2
end
section
variable {K:PySem.W.Frag}{N:Addr→Prop}{H H' H₀:Hp}{I:Nat→Option Addr}{O:Addr→Prop}{σ:L2.St}{env:Ev}
theorem Uy{N:Addr→Prop}(k:Key):Rp K N H (kV k) (cg k):=by
 cases k with
 |inl i=>exact .int i
 |inr x=>exact .str x
 |non=>exact .non
end
section
variable {K:PySem.W.Frag}{N:Addr→Prop}{H H' H₀:Hp}{I:Nat→Option Addr}{O:Addr→Prop}{σ:L2.St}{env:Ev}
theorem n9:∀{n:Nat}{acc:List Value}{c:Int},acc.length=n→(∀(j:Nat) v,acc[j]?=some v→∃t,v=.int (c+(j:Int)) t)→Vals ((List.range n).map fun(k:Nat)=>V.int (c+(k:Int))) acc
 |_,[],_,e,_=>by subst e;exact .nil
 |_,v::acc,c,e,h=>by
  subst e
  rw[cz,List.range_succ_eq_map,bF,yg]
  refine .cons (h 0 v rfl) ?_
  have:=n9 (c:=c+1) (acc:=acc) rfl fun j w hw=>by
   obtain⟨t,e⟩:=h (j+1) w (by simpa using hw)
   exact⟨t,by rw[e];congr 1;omega⟩
  have e2:((fun(k:Nat)=>V.int (c+(k:Int)))∘Nat.succ)=fun(k:Nat)=>V.int (c+1+(k:Int)):=funext fun k=>by
   show V.int (c+((k+1:Nat):Int))=_
   congr 1;omega
  rw[e2]
  exact this
end
end J
namespace J
open PySem L2
noncomputable def JN(K:PySem.W.Frag)(n:Nat)(F:List D→Option D):Sp:=fun vs H Q _=>vs.length=n∧∃ds d,sJ K H [0] vs ds∧F ds=some d ∧
 ∀p H',(gR [0] vs p∨H p=none)→(∀a o,¬gR [0] vs a→H a=some o→H' a=some o)→(∀a o,H a=some o→∃o',H' a=some o')→Cell K (fun _=>False) H' p d→Q (.ref p) H'
noncomputable def IJ:Fl→Option D
 |.rt _ m d=>if own m=true∧dZ d=true then some d else none
 |_=>none
noncomputable def Bn(L:Nat)(g:Ev→Option Fl):List D→Option D:=fun ds=>(g (ik [0] ds++List.replicate (L-ds.length) none)).bind IJ
section
variable {K:PySem.W.Frag}{H H' H₀:Hp}{I:Nat→Option Addr}{O O':Addr→Prop}{σ:L2.St}{env:Ev}
theorem N3{ts:TS}{g:Ev→Option Fl}{n:Nat}{N:List Str}{vs:List V}{Q:VK}{E:XK}(h:JS K ts g)(hs:JN K n (Bn N.length g) vs H Q E):ts { nx:=fun _ H'=>Q .non H',rt:=Q } (L2.start N vs) H:=by
 obtain⟨hl,ds,d,A,e,q⟩:=hs
 obtain⟨fl,ef,eo⟩:=ao e
 obtain⟨I0,jP,R⟩:=D3 (N:=N) A
 refine h H I0 (gR [0] vs) H _ _ _ fl R ef ?_
 cases fl with
 |nx e'=>cases eo
 |bk e'=>cases eo
 |ct e'=>cases eo
 |rt e' m' d' =>
  intro O' H' σ' v R' st hv
  unfold IJ at eo
  simp only at eo
  split at eo
  ·rename_i hm
   cases eo
   have hc:∃p,v=.ref p∧O' p∧Cell K (fun _=>False) H' p d:=by
    cases m'<;>try (cases hm.1;done)
    ·obtain⟨p,rfl,o,_,c⟩:=hv;exact⟨p,rfl,o,c.im hm.2⟩
    ·obtain⟨p,rfl,o,c⟩:=hv;exact⟨p,rfl,o,c.im hm.2⟩
   obtain⟨p,rfl,o,c⟩:=hc
   refine q p H' ?_ (fun a o n e=>R'.fr a o (fun i z=>n ⟨i,(jP z).1,(jP z).2⟩) e) R'.e.hd c
   rcases R'.ow p o with⟨i,z⟩|z
   ·exact .inl ⟨i,(jP z).1,(jP z).2⟩
   ·exact .inr z
  ·cases eo
end
section
variable {K:PySem.W.Frag}{H H' H₀:Hp}{O:Addr→Prop}{σ:L2.St}{env:Ev}
end
noncomputable def Bp(neg:Bool)(fk fd:Ev→Option (M×D)):Ev→Option (M×D):=fun e=>(fk e).bind fun y=>(fd e).bind fun x=>(Bm x.2).bind fun ks=>(Bl y.2).bind fun k=>some (.fr,.bl (if neg then !(bZ ks k).isSome else (bZ ks k).isSome))
section
variable {K:PySem.W.Frag}{H H' H₀:Hp}{O:Addr→Prop}{σ:L2.St}{env:Ev}
theorem Uz{td ty:TE}{fd fk:Ev→Option (M×D)}(hk:JT K ty fk)(hd:JT K td fd):JT K (A2 ty td) (Bp false fk fd):=by
 intro H₀ O H σ env Q m d R h q
 obtain⟨y,ey,h⟩:=ao h
 obtain⟨x,ex,h⟩:=ao h
 obtain⟨ks,iW,h⟩:=ao h
 obtain⟨k,ek,h⟩:=ao h
 cases h
 refine hk H₀ O H σ env _ y.1 y.2 R ey fun w H1 s1 h1=>?_
 refine hd H₀ O H1 σ env _ x.1 x.2 (R.keep s1) ex fun v H2 s2 h2=>?_
 rw[Gk iW]at h2
 obtain⟨a,kvs,rfl,rd,en⟩:=h2.dt
 obtain⟨b,rfl,hb⟩:=Fq ek (h1.keep s2).weak
 refine⟨a,dH kvs k,rfl,.inr ⟨kvs,k,b,rd,rfl,hb,rfl⟩,?_⟩
 rw[en.isSome]
 exact q _ H2 (s1.trans s2) dG
theorem N4{td ty:TE}{fd fk:Ev→Option (M×D)}(hk:JT K ty fk)(hd:JT K td fd):JT K (zP ty td) (Bp true fk fd):=by
 intro H₀ O H σ env Q m d R h q
 obtain⟨y,ey,h⟩:=ao h
 obtain⟨x,ex,h⟩:=ao h
 obtain⟨ks,iW,h⟩:=ao h
 obtain⟨k,ek,h⟩:=ao h
 cases h
 refine hk H₀ O H σ env _ y.1 y.2 R ey fun w H1 s1 h1=>?_
 refine hd H₀ O H1 σ env _ x.1 x.2 (R.keep s1) ex fun v H2 s2 h2=>?_
 rw[Gk iW]at h2
 obtain⟨a,kvs,rfl,rd,en⟩:=h2.dt
 obtain⟨b,rfl,hb⟩:=Fq ek (h1.keep s2).weak
 refine⟨a,dH kvs k,rfl,.inr ⟨kvs,k,b,rd,rfl,hb,rfl⟩,?_⟩
 rw[en.isSome]
 exact q _ H2 (s1.trans s2) dG
end
section
variable {K:PySem.W.Frag}{H H' H₀:Hp}{I:Nat→Option Addr}{O:Addr→Prop}{σ:L2.St}{env:Ev}
theorem tH{e:Ev}{i:Nat}{x:M×D}(h:(e.map fun _=>(none:Option (M×D)))[i]?=some (some x)):False:=by
 rw[cE]at h
 cases q:e[i]? with
 |none=>rw[q]at h;cases h
 |some y=>rw[q]at h;cases h
theorem Rel.Vz(R:Rel K H₀ I O H σ env):Rel K H₀ I (fun _=>False) H σ (env.map fun _=>none) :=
 ⟨⟨jX (by rw[aU];exact cJ R.e.sl) fun j a b h1 _ m d e=>by subst e;exact(tH h1).elim,fun _ z=>z.elim,R.e.hd,fun _ _ z=>z.elim⟩,R.fr,fun _ z=>z.elim,fun i d p h=>(tH h).elim,fun i j x y p h=>(tH h).elim,⟨fun i j d d' h=>(tH h).elim,fun i j d x p q xs h=>(tH h).elim⟩⟩
noncomputable def vf(x:M×D):Bool:=x.2.bx||(dZ x.2&&(match x.1 with
 |.un=>true
 |.bo=>true
 |_=>false))
theorem UA{x:M×D}{v:V}{Hb:Hp}(h:vf x=true)(hv:Val K H₀ O Hb H x.1 x.2 v):UT K (fun q=>HE q=none∧H₀ q=none∧¬False) H x.2 v:=by
 obtain⟨m,d⟩:=x
 unfold vf at h
 rw[Bool.or_eq_true,gx]at h
 rcases h with h|⟨h1,h2⟩
 ·exact .inl ⟨h,hv.weak.im h⟩
 ·cases m<;>try (exact absurd h2 aZ)
  ·obtain⟨p,rfl,_,z,_,c⟩:=hv
   exact .inr ⟨p,rfl,⟨rfl,z,id⟩,c.im h1⟩
  ·obtain⟨p,rfl,_,z,c⟩:=hv
   exact .inr ⟨p,rfl,⟨rfl,z,id⟩,c.im h1⟩
noncomputable def qz(fs:Ev→Option (List (M×D))):Ev→Option Fl:=fun e=>(fs e).bind fun ak=>if ak.length≤sizeLine∧(ak.all vf)=true then some (.rt (e.map fun _=>none) .ut (.tup (ak.map (·.2))))else none
theorem UT.keep{F:Addr→Prop}{d:D}{v:V}(s:aA H H')(h:UT K F H d v):UT K F H' d v:=by
 rcases h with⟨z1,z2⟩|⟨q,z1,z2,c⟩
 ·exact .inl ⟨z1,z2.keep (.same s)⟩
 ·obtain⟨o,e,_⟩:=c.some
  exact .inr ⟨q,z1,z2,c.keep (.same s) ((s _ _ e).trans e.symm)⟩
theorem Ho:∀{ak:List (M×D)}{vs:List V}{Hb:Hp},ak.all vf=true→fh K H₀ O Hb H ak vs→Paired (UT K (fun q=>HE q=none∧H₀ q=none∧¬False) H) (ak.map (·.2)) vs
 |[],_,_,_,.nil=>.nil
 |x::r,_,_,h,.cons a t=>by
  rw[jE,gx]at h
  exact .cons (UA h.1 a) (Ho h.2 t)
theorem RK{ta:TA}{fs:Ev→Option (List (M×D))}(ha:gQ K ta fs):JS K (tO (AZ ta)) (qz fs):=by
 intro H₀ I O H σ env Ds fl R e q
 obtain⟨ak,em,e⟩:=ao e
 split at e
 ·rename_i hc
  cases e
  refine ha H₀ O H σ env _ ak R.e em fun vs H1 s1 h1=>⟨by rw[←cJ h1];exact hc.1,fun p hp=>?_⟩
  have s2:aA H1 (upd H1 p (.tup vs)):=cq hp
  have s:=s1.trans s2
  exact q _ _ σ _ (R.keep s).Vz (fun a o h _=>⟨s a o h,id⟩) ⟨p,vs,_,rfl,rfl,.inl a9,Paired.kh (Ho hc.2 h1) fun d v z=>z.keep s2⟩
 ·cases e
theorem Rel.Lc{i:Nat}{v:V}(R:Rel K H₀ I O H σ env):Rel K H₀ I O H (σ.set i (some v)) (env.set i none):=by
 have at_:∀{j:Nat}{x:M×D},(env.set i none)[j]?=some (some x)→j≠i∧env[j]?=some (some x):=fun {j x} h=>by
  rcases get_set h with⟨_,z⟩|z
  ·cases z
  ·exact z
 have rJ:∀{j:Nat}{y:Option V},j≠i→(σ.set i (some v))[j]?=some y→σ[j]?=some y:=fun {j y} n h=>by rwa [cU (fun z=>n z.symm)]at h
 refine⟨⟨jX (by rw[hG,hG];exact cJ R.e.sl) fun j a b h1 h2 m d e=>?_,R.e.od,R.e.hd,R.e.on⟩,R.fr,R.ow,fun i' d' p h1 p1=>R.ba i' d' p (at_ h1).2 (rJ (at_ h1).1 p1),fun i' j x y p h1 h2 o1 o2 p1 p2=>R.dj i' j x y p (at_ h1).2 (at_ h2).2 o1 o2 (rJ (at_ h1).1 p1) (rJ (at_ h2).1 p2),⟨fun i' j d1 d2 h1 h2=>R.nd.1 i' j d1 d2 (at_ h1).2 (at_ h2).2,fun i' j d1 x p q xs h1 p1 h2 o2 p2 e=>R.nd.2 i' j d1 x p q xs (at_ h1).2 (rJ (at_ h1).1 p1) (at_ h2).2 o2 (rJ (at_ h2).1 p2) e⟩⟩
 subst e
 obtain⟨nj,h1⟩:=at_ h1
 obtain⟨w,hw,n,hz⟩:=R.e.at h1
 rw[rJ nj h2]at hw
 exact⟨n,w,by simpa using hw,hz⟩
def Cs(Hb H:Hp)(xs:List V)(ds:List D)(n:Nat):Prop:=∀(k:Nat) (d:D),ds[k]?=some d→(∀l,d=.lst l→∃q ys,xs[k]?=some (.ref q)∧Hb q=none∧H q=some (.lst ys)∧ys.length≤l.length+n)∧∀ks,d=.dk ks→∃q kvs,xs[k]?=some (.ref q)∧Hb q=none∧H q=some (.dK kvs)∧kvs.length≤ks.length+n
theorem Cs.keep{Hb:Hp}{xs:List V}{ds:List D}{n:Nat}(s:aA H H')(h:Cs Hb H xs ds n):Cs Hb H' xs ds n:=fun k d e=>⟨fun l el=>let ⟨q,ys,a,b,c,z⟩:=(h k d e).1 l el;⟨q,ys,a,b,s _ _ c,z⟩,fun ks el=>let ⟨q,ys,a,b,c,z⟩:=(h k d e).2 ks el;⟨q,ys,a,b,s _ _ c,z⟩⟩
theorem Cs.of{Hb:Hp}{F:Addr→Prop}{xs:List V}{ds:List D}(w:∀q,F q→Hb q=none)(h:Paired (UT K F H) ds xs):Cs Hb H xs ds 0:=fun k d e=>by
 obtain⟨v,hv,z⟩:=Ba h e
 refine⟨fun l el=>?_,fun ks el=>?_⟩
 ·subst el
  rcases z with⟨z,_⟩|⟨q,rfl,f,c⟩
  ·cases z
  ·obtain⟨ys,c,r⟩:=c;exact⟨q,ys,hv,w q f,c,qU r.len⟩
 ·subst el
  rcases z with⟨z,_⟩|⟨q,rfl,f,c⟩
  ·cases z
  ·obtain⟨ys,c,e,r⟩:=c
   have:=cP List.length e
   rw[aU,aU]at this
   exact⟨q,ys,hv,w q f,c,qU this⟩
def yK(K:PySem.W.Frag)(i:Nat)(ts:TS)(c:Ev→Nat→List D→Bool):Prop :=
 ∀H₀ I O Hb H σ env Ds a xs ds n,Rel K H₀ I O Hb σ env→σ[i]?=some (some (.ref a))→aA Hb H→bf K H a xs→xs.length=ds.length→Cs Hb H xs ds n→c env n ds=true→(∀H',aA Hb H'→bf K H' a xs→Cs Hb H' xs ds (n+1)→Ds.nx σ H')→ts Ds σ H
theorem Gm{a q:Addr}{xs:List V}{o o':HO}(h:bf K H a xs)(e:H q=some o)(n:¬fP o):bf K (upd H q o') a xs:=by
 rcases h with h|h
 ·refine .inl ?_
  rw[ay (fun z=>by subst z;rw[h]at e;cases e;exact n trivial)];exact h
 ·exact .inr h
theorem Fs{Hb:Hp}{q:Addr}{o:HO}(s:aA Hb H)(h:Hb q=none):aA Hb (upd H q o):=fun a u e=>by
 rw[ay (eD e h)];exact s a u e
theorem Cs.W2{Hb:Hp}{xs:List V}{ds:List D}{n:Nat}{q:Addr}{ys:List V}{y:V}(h:Cs Hb H xs ds n)(e:H q=some (.lst ys)):Cs Hb (upd H q (.lst (ys++[y]))) xs ds (n+1):=fun k d ed=>by
 refine⟨fun l el=>?_,fun ks el=>?_⟩
 ·obtain⟨p,zs,a,b,c,z⟩:=(h k d ed).1 l el
  by_cases w:p=q
  ·subst w
   rw[e]at c;cases c
   exact⟨p,_,a,b,a9,by rw[b9];simp only[List.length_cons,List.length_nil];omega⟩
  ·exact⟨p,zs,a,b,by rw[ay w];exact c,by omega⟩
 ·obtain⟨p,zs,a,b,c,z⟩:=(h k d ed).2 ks el
  exact⟨p,zs,a,b,by rw[ay (lF c e (fun w=>nomatch w))];exact c,by omega⟩
theorem Cs.W3{Hb:Hp}{xs:List V}{ds:List D}{n:Nat}{q:Addr}{kvs:List (Key×V)}{k:Key}{v:V}(h:Cs Hb H xs ds n)(e:H q=some (.dK kvs)):Cs Hb (upd H q (.dK (putK kvs k v))) xs ds (n+1):=fun j d ed=>by
 refine⟨fun l el=>?_,fun ks el=>?_⟩
 ·obtain⟨p,zs,a,b,c,z⟩:=(h j d ed).1 l el
  exact⟨p,zs,a,b,by rw[ay (lF c e (fun w=>nomatch w))];exact c,by omega⟩
 ·obtain⟨p,zs,a,b,c,z⟩:=(h j d ed).2 ks el
  by_cases w:p=q
  ·subst w
   rw[e]at c;cases c
   have:=vB kvs k v
   exact⟨p,_,a,b,a9,by omega⟩
  ·exact⟨p,zs,a,b,by rw[ay w];exact c,by omega⟩
noncomputable def qA(n:Nat)(ds:List D)(k:Int):Bool:=match L2.aX ds k with
 |some (.lst l)=>decide (l.length+n<sizeLine)
 |_=>false
noncomputable def wZ(n:Nat)(ds:List D)(k:Int):Bool:=match L2.aX ds k with
 |some (.dk l)=>decide (l.length+n<sizeLine)
 |_=>false
noncomputable def oS(fk f:Ev→Option (M×D)):Ev→Nat→List D→Bool:=fun e n ds=>match fk e,f e with
 |some (_,.int k),some _=>qA n ds k
 |_,_=>false
noncomputable def tZ(fk fy f:Ev→Option (M×D)):Ev→Nat→List D→Bool:=fun e n ds=>match fk e,fy e,f e with
 |some (_,.int k),some y,some _=>(keyOf y.2).isSome&&wZ n ds k
 |_,_,_=>false
theorem Hq{α:Type}{l:List α}{k:Int}{a:α}(h:L2.aX l k=some a):∃j,dF l.length k=some j∧l[j]?=some a:=by
 unfold L2.aX at h
 cases q:dF l.length k with
 |none=>rw[q]at h;cases h
 |some j=>rw[q]at h;exact⟨j,rfl,h⟩
theorem Hr{α:Type}{l:List α}{k:Int}{a:α}{j:Nat}(h:dF l.length k=some j)(e:l[j]?=some a):L2.aX l k=some a:=by
 unfold L2.aX;rw[h];exact e
theorem VA{i:Nat}{t tk:TE}{f fk:Ev→Option (M×D)}(hk:JT K tk fk)(h:JT K t f):yK K i (qo (pw K "list" su (lZ (rn K) (gq i) tk) (lG t kr))) (oS fk f):=by
 intro H₀ I O Hb H σ env Ds a xs ds n R hs s sq hl cs hc q
 unfold oS at hc
 split at hc
 ·rename_i mk k x ek ex
  unfold qA at hc
  split at hc
  ·rename_i l el
   have hc:=bu hc
   obtain⟨j,ej,ed⟩:=Hq el
   obtain⟨p,ys,hx,hb,hp,le⟩:=(cs j _ ed).1 l rfl
   refine⟨.ref a,hs,?_⟩
   refine hk H₀ O H σ env _ _ _ (R.keep s).e ek fun w H1 s1 hw=>?_
   refine .inr (.inl ⟨a,xs,k,.ref p,rfl,hw.int,(Keeps.same (N:=fun _=>True) s1).sq sq,Hr (by rw[hl];exact ej) hx,?_⟩)
   refine⟨.inl ⟨rfl,ys,.inl (.inl (s1 _ _ hp))⟩,?_⟩
   refine h H₀ O H1 σ env _ x.1 x.2 (R.keep (s.trans s1)).e ex fun u H2 s2 hu=>?_
   have s3:=s1.trans s2
   refine⟨p,ys,u,rfl,rfl,s3 _ _ hp,by omega,?_⟩
   exact q _ (Fs (s.trans s3) hb) (Gm ((Keeps.same (N:=fun _=>True) s3).sq sq) (s3 _ _ hp) (fun z=>z)) ((cs.keep s3).W2 (s3 _ _ hp))
  ·cases hc
 ·cases hc
theorem VB{i:Nat}{t tk ty:TE}{f fk fy:Ev→Option (M×D)}(hk:JT K tk fk)(hy:JT K ty fy)(h:JT K t f):yK K i (wJ (lZ (rn K) (gq i) tk) ty t) (tZ fk fy f):=by
 intro H₀ I O Hb H σ env Ds a xs ds n R hs s sq hl cs hc q
 unfold tZ at hc
 split at hc
 ·rename_i mk k y x ek ey ex
  obtain⟨Yc,hc⟩:=Bool.and_eq_true_iff.mp hc
  obtain⟨kk,Yd⟩:=Option.isSome_iff_exists.mp Yc
  unfold wZ at hc
  split at hc
  ·rename_i l el
   have hc:=bu hc
   obtain⟨j,ej,ed⟩:=Hq el
   obtain⟨p,ys,hx,hb,hp,le⟩:=(cs j _ ed).2 l rfl
   refine h H₀ O H σ env _ x.1 x.2 (R.keep s).e ex fun u H1 s1 hu=>?_
   refine⟨.ref a,hs,?_⟩
   refine hk H₀ O H1 σ env _ _ _ (R.keep (s.trans s1)).e ek fun w H2 s2 hw=>?_
   have C1:=s1.trans s2
   refine .inr (.inl ⟨a,xs,k,.ref p,rfl,hw.int,(Keeps.same (N:=fun _=>True) C1).sq sq,Hr (by rw[hl];exact ej) hx,?_⟩)
   refine hy H₀ O H2 σ env _ y.1 y.2 (R.keep (s.trans C1)).e ey fun z H3 s3 hz=>?_
   obtain rfl:=lB Yd hz.weak
   have s4:=C1.trans s3
   refine⟨p,_,rfl,.inl ⟨ys,kk,s4 _ _ hp,rfl,by omega,rfl⟩,?_⟩
   exact q _ (Fs (s.trans s4) hb) (Gm ((Keeps.same (N:=fun _=>True) s4).sq sq) (s4 _ _ hp) (fun z=>z)) ((cs.keep s4).W3 (s4 _ _ hp))
  ·cases hc
 ·cases hc
noncomputable def xJ:List (Ev→Nat→List D→Bool)→Ev→Nat→List D→Bool
 |[],_,_,_=>true
 |c::r,e,n,ds=>c e n ds&&xJ r e (n+1) ds
inductive qN (K:PySem.W.Frag)(i:Nat):List TS→List (Ev→Nat→List D→Bool)→Prop
 |nil:qN K i [] []
 |cons {t:TS}{c:Ev→Nat→List D→Bool}{ts:List TS}{cs:List (Ev→Nat→List D→Bool)}:yK K i t c→qN K i ts cs→qN K i (t::ts) (c::cs)
theorem Gn{i:Nat}{a:Addr}{xs:List V}{ds:List D}{tb:TS}{Ds:Ends}:∀{ts:List TS}{cs:List (Ev→Nat→List D→Bool)}{n:Nat}{Hb H:Hp},qN K i ts cs→Rel K H₀ I O Hb σ env→σ[i]?=some (some (.ref a))→aA Hb H→bf K H a xs→xs.length=ds.length→Cs Hb H xs ds n→xJ cs env n ds=true→(∀H',aA Hb H'→tb Ds σ H')→ts.foldr lN tb Ds σ H
 |_,_,_,_,_,.nil,_,_,s,_,_,_,_,q=>q _ s
 |_,_,n,Hb,H,.cons h t,R,hs,s,sq,hl,cs,hc,q=>by
  obtain⟨h1,h2⟩:=Bool.and_eq_true_iff.mp hc
  exact h H₀ I O Hb H σ env _ a xs ds n R hs s sq hl cs h1 fun H' s' Ye cM=>Gn t R hs s' Ye hl cM h2 q
noncomputable def yL(i:Nat)(f:Ev→Option (M×D))(c:Ev→Option Bool)(r:Ev→Option (M×D))(cs:List (Ev→Nat→List D→Bool))(b:Ev→Option Fl):Ev→Option Fl:=fun e=>(f e).bind fun x=>match x with
 | (.ut,.tup ds)=>(c (e.set i (some (.fr,.tup ds)))).bind fun z=>if z=true then aP r (e.set i (some (.fr,.tup ds)))else if xJ cs (e.set i none) 0 ds=true∧i<e.length then b (e.set i none)else none
 |_=>none
theorem VC{i:Nat}{t tr:TE}{tc:TT}{ts:List TS}{tb:TS}{f r:Ev→Option (M×D)}{c:Ev→Option Bool}{cs:List (Ev→Nat→List D→Bool)}{b:Ev→Option Fl}(hf:JT K t f)(hc:dX K tc c)(hr:JT K tr r)(fN:qN K i ts cs)(hb:JS K tb b) :
  JS K (lN (gK t (g0 i)) (lN (xn tc (tO tr) wG) (ts.foldr lN tb))) (yL i f c r cs b):=by
 intro H₀ I O H σ env Ds fl R e q
 obtain⟨x,ex,e⟩:=ao e
 split at e
 ·rename_i ds
  obtain⟨z,ez,e⟩:=ao e
  refine hf H₀ O H σ env _ _ _ R.e ex fun v H1 s1 h1=>?_
  have R1:Rel K H₀ I O H1 (σ.set i (some v)) (env.set i (some (.fr,.tup ds))):=(R.keep s1).set_plain rfl rfl (show Rp K _ H1 v _ from h1.bM rfl)
  refine hc H₀ O H1 _ _ _ z R1.e ez fun H2 s2=>?_
  cases z with
  |true =>
   rw[if_pos rfl]at e ⊢
   obtain⟨y,ey,e⟩:=ao e
   cases e
   have q':=q.pre (aF.same (s1.trans s2))
   exact hr H₀ O H2 _ _ _ y.1 y.2 (R1.keep s2).e ey fun w H3 s3 h3=>q' O H3 _ w ((R1.keep s2).keep s3) (aF.same s3) h3.h0
  |false =>
   rw[if_neg aZ]at e ⊢
   split at e
   ·rename_i hh
    obtain⟨a,xs,mq,rfl,ed,sq,pr⟩:=h1
    cases ed
    have s:=s1.trans s2
    have hlen:i<σ.length:=by rw[←cJ R.e.sl];exact hh.2
    refine Gn (Hb:=H) (n:=0) fN R.Lc (by rw[List.getElem?_set_self hlen]) s ((Keeps.same (N:=fun _=>True) s2).sq sq) (cJ pr).symm ((Cs.of (fun q z=>z.1) pr).keep s2) hh.1 fun H' s'=>?_
    exact hb H₀ I O H' _ _ _ fl (R.Lc.keep s') e (q.pre (aF.same s'))
   ·cases e
 ·cases e
end
end J
namespace J
open PySem PySem.Spec PyProof.Rows L2
section
variable {X:Cx}{pins:List (Addr×Obj)}{σ:L2.St}{H:Hp}{s:Shared}{a it:Addr}
theorem Gp{P:Program}{w:World}{h:Heap}{kvs:List (Key×V)}(ok:bT P w H h a (.dK kvs)):∃o es ep,h.get? a=some o∧o.ExactDict∧o.data=.dict es ep∧es.size=kvs.length∧(∀(i:Nat) kv,kvs[i]?=some kv→∃e,es[i]?=some e∧RelV (kV kv.1) e.key)∧(a==sysModules)=false:=by
 obtain⟨z,lo,vs,rv,o,es,ep,ho,ex,hd,hk,hp,hn⟩:=ok
 have e1:=hp.length
 have e2:=rv.length
 simp only[Array.length_toList]at e1
 refine⟨o,es,ep,ho,ex,hd,by omega,fun i kv e=>?_,lo⟩
 obtain⟨v,h1,h2⟩:=wt rv e
 have hi:i<es.size:=by
  have:=(bt.mp h1).1
  omega
 exact⟨es[i],by simp[hi],Gh (hp.get? (e:=es[i]) (by simp[hi]) h1).1⟩
noncomputable def C2(a:Addr)(o:Obj)(kvs:List (Key×V)):It :=
 ⟨fun i H=>H a=some (.aK o (.dK kvs))∧i<kvs.length,fun i H x H'=>H'=H∧∃kv,kvs[i]?=some kv∧x=kV kv.1,fun i H=>H a=some (.aK o (.dK kvs))∧kvs.length≤i⟩
theorem Gq{o:Obj}{kvs:List (Key×V)}{es:Array DictEntry}{ep:Nat}(I:L2.Inv X pins σ H s)(e:H a=some (.aK o (.dK kvs)))(hd:o.data=.dict es ep):iw s.heap a es ep∧es.size=kvs.length∧∀(i:Nat) kv,kvs[i]?=some kv→∃e,es[i]?=some e∧RelV (kV kv.1) e.key:=by
 obtain⟨ho,ok⟩:=(I.az a _ e:bT X.prog X.w H s.heap a (.aK o (.dK kvs)))
 obtain⟨o',uC,uD,dE,ex,jI,h1,h2,_⟩:=Gp ok
 rw[ho]at dE;cases dE
 rw[hd]at jI;cases jI
 exact⟨⟨o,ho,ex,hd⟩,h1,h2⟩
theorem N5{P:Program}{w:World}{K:PySem.W.Frag}{tg:Expr}{o:Obj}{kvs:List (Key×V)}{es:Array DictEntry}{ep:Nat}(hd:o.data=.dict es ep):Turn P w K tg (C2 a o kvs) [it] it (fun i h=>h.IsKeyIter it a i es.size ep) where
 mem:=by simp
 obj:=fun i h st b hb=>by
  have e:b=it:=by simpa using hb
  subst e
  obtain⟨o,e,c,d⟩:=st
  exact⟨o,e,fun v z=>by rw[d]at z;cases z⟩
 keep:=fun i h h' st k=>st.at fun o e=>k it (by simp) o e
 item:=by
  intro X hP hw hK hc i pins s σ H E I hf st hg
  subst hP hw hK
  obtain⟨r,hz,Yf⟩:=Gq I hg.1 hd
  obtain⟨f0,f1,f2,f3,f4,f5⟩:=hf it (by simp)
  have hx:=bO hg.2
  obtain⟨e,he,h2⟩:=Yf i _ hx
  refine M3 st r he fun h' gA sb=>?_
  obtain⟨ob,e1,c1,d1⟩:=id gA
  exact⟨_,rfl,sY (s:={ s with heap:=h' }) e1 c1 d1 (by decide) ⟨_,H,I.turned (t':=s.toks) (fun b o hb e=>(sb.2 b hb).trans e) f0 f1 f3 f4 f5,h2,⟨rfl,_,hx,rfl⟩,gA,fun b hb=>(hf b hb).1⟩⟩
 done:=by
  intro X hP hw hK hc i pins s σ H E I hf st hg
  subst hP hw hK
  obtain⟨r,hz,_⟩:=Gq I hg.1 hd
  obtain⟨f0,f1,f2,f3,f4,f5⟩:=hf it (by simp)
  exact NF (I.ok.hd hc) st r (by rw[hz];exact hg.2) fun h' eb=>⟨rfl,I.turned (t':=s.toks) (fun b o hb e=>eb b o hb e) f0 f1 f3 f4 f5⟩
 self:=fun _ _ _ _ _ st h=>wpAny_pyIter_keyiter st h
noncomputable def IK(td:TE):TI:=fun σ H R=>td σ H fun x H1=>∃a o kvs,x=.ref a∧H1 a=some (.aK o (.dK kvs))∧R (C2 a o kvs) H1
theorem RL{e:Expr}{td:TE}{tg:Expr}(he:PE X e td):PI X tg e (IK td):=by
 intro pins s σ H R I h
 refine aC (he pins s σ H _ I h) fun v s1 ⟨x,H1,I1,r1,a,o,kvs,ex,hf,q⟩=>?_
 subst ex
 obtain rfl:v=Value.ref a:=r1
 obtain⟨ho,ok⟩:=(I1.az a _ hf:bT X.prog X.w H1 s1.heap a (.aK o (.dK kvs)))
 obtain⟨o',es,ep,dE,ex,hd,hz,_,lo⟩:=Gp ok
 rw[ho]at dE;cases dE
 refine M0 lo ⟨o,ho,ex,hd⟩ ?_
 refine⟨_,[_],_,_,H1,rfl,I1.kept (t':=s1.toks) fun b u q=>cy _ q,N5 hd,⟨_,eU _ rfl,rfl,rfl⟩,fun b hb=>?_,q⟩
 have gC:b=s1.heap.objs.size:=by simpa using hb
 subst gC
 exact I1.oF (aR _) (I1.az.fresh (aR _))
end
section
variable {K:PySem.W.Frag}{N:Addr→Prop}{H H' H₀:Hp}{I:Nat→Option Addr}{O:Addr→Prop}{σ:L2.St}{env:Ev}
noncomputable def C3:D→Option (List D)
 |.dk ks=>some (ks.map fun kv=>cg kv.1)
 |_=>none
theorem RM{m:M}(hm:dB m=true)(k:Key):Val K H₀ O HE H m (cg k) (kV k):=by
 cases m<;>first|exact Uy k|cases hm
theorem N6{m:M}{a:Addr}{o:Obj}{kvs:List (Key×V)}{ks:List (Key×D)}(hm:dB m=true)(e:H a=some (.aK o (.dK kvs)))(ha:¬O a)(r:kvs.map (·.1)=ks.map (·.1)):iH K H₀ O (C2 a o kvs) H m (ks.map fun kv=>cg kv.1):=by
 have hl:kvs.length=ks.length:=by simpa using cP List.length r
 refine⟨fun O2 H2 i st hi=>⟨(st a _ e ha).1,by rw[hl];simpa using hi⟩,?_,fun O2 H2 st=>⟨(st a _ e ha).1,by rw[hl,List.length_map];exact aR _⟩⟩
 rintro O2 H2 i x H3 st hi ⟨rfl,kv,hx,rfl⟩
 refine⟨aA.refl _,cg kv.1,?_,RM hm _⟩
 have h1:(kvs.map (·.1))[i]?=some kv.1:=by rw[cE,hx];rfl
 rw[r,cE]at h1
 rw[cE]
 cases q:ks[i]? with
 |none=>rw[q]at h1;cases h1
 |some z=>rw[q]at h1;rw[←c9 h1];rfl
theorem RN{i:Nat}{g:TG}{tb:TS}{fg:M×D→Ev→Option Ev}{b:Ev→Option Fl}(hg:JG K g fg)(hb:JS K tb b):JS K (AI i (km (IK (gq i)) g tb)) (tG C3 i fg b) :=
 RJ (fun d ds e=>by cases d<;>first|exact .inl ⟨_,rfl⟩|cases e) (fun G O H1 σ m a o u d ds hm hv e1 na dr ed on R' k=>by
  cases d<;>try (cases ed;done)
  cases u<;>try (exact dr.elim)
  cases ed
  exact⟨_,hv,a,_,_,rfl,e1,k _ _ (aA.refl _) (N6 hm e1 na dr.1)⟩) hg hb
end
section
variable {K:PySem.W.Frag}{N:Addr→Prop}{H H' H₀:Hp}{I:Nat→Option Addr}{O:Addr→Prop}{σ:L2.St}{env:Ev}
theorem Gr:∀{kvs:List (Key×V)}{vs:List (Key×Value)},KV kvs vs→Vals (kvs.map (·.2)) (vs.map (·.2))
 |_,_,.nil=>.nil
 |_,_,.cons h t=>.cons h.2 (Gr t)
noncomputable def Ld(te:TE):TE:=fun σ H Q=>te σ H fun x H1=>∃a kvs,x=.ref a∧Rd H1 a (.dK kvs)∧∀l,H1 l=none→Q (.ref l) (upd H1 l (.lst (kvs.map (·.2))))
theorem VD {X:Cx}{e:Expr}{te:TE}{p' pos' apos bX:Pos} (hc:X.calm=true) (Yg:Gl X "list") (Yh:X.mg "list" = none) (he:PE X e te) (om:attributeBase e "values" X.env (eval e X.env)=eval e X.env) (hline:(apos.endLine==bX.line)=true):PE X (.Call (.Name "list" p') [.Call (.Attribute e "values" apos) [] [] bX] [] pos') (Ld te):=by
 intro pins s σ H Q I h
 refine Call_ (p7 I Yg Yh PyProof.Rows.Boot.«list» (xW ?_ rfl rfl))
 show wpAny _ _ (spliced ((false,eval (.Call (.Attribute e "values" apos) [] [] bX) X.env)::backTo pos' (starEach [] X.env))) _ _ s
 refine xZ ?_
 refine wpAny_Call_method0_late om hline (aC (he pins s σ H _ I h) fun v s1 ⟨x,H1,I1,r1,a,kvs,ex,rd,q⟩=>?_)
 subst ex
 obtain rfl:v=Value.ref a:=r1
 have ok:bT X.prog X.w H1 s1.heap a (.dK kvs):=by
  rcases rd with hf|⟨o,hf⟩
  ·exact I1.az a _ hf
  ·exact(I1.az a _ hf:bT X.prog X.w H1 s1.heap a (.aK o (.dK kvs))).2
 obtain⟨hz,lo,vs,rv,yH⟩:=ok
 obtain⟨o,es,ep,ho,ex,hd,r⟩:=id yH
 refine⟨"dict", "dict.values",BU,PySem.F.slot_dict_values,PySem.F.type_dict_values,⟨o,ho,ex.1⟩,fun a' e2=>by cases e2;exact⟨o,ho,ex.2.1⟩,uj rfl (PySem.evalArgs_none ?_)⟩
 refine N2 lo ⟨o,ho,ex,hd⟩ ?_
 refine args_nil ?_
 have I2:L2.Inv X pins σ H1 { s1 with heap:=s1.heap.push { cls:=.type "dict_values",data:=.fields #[.ref a] } }:=I1.kept (t':=s1.toks) fun b u q=>cy _ q
 have da:(s1.heap.push { cls:=.type "dict_values",data:=.fields #[.ref a] }).DictAt (cu X.prog X.w) a vs ep:=⟨o,es,cy _ ho,ex,hd,r⟩
 refine PySem.W.kdl_call (PySem.W.kdl_values (knd:=cu X.prog X.w) (kvs:=vs) (ep:=ep)) (I1.ok.hd hc) ⟨⟨_,eU _ rfl,rfl,rfl⟩,da⟩ (by rw[←rv.length];exact hz) fun h' tk ua c' kp e tU=>?_
 refine⟨.ref _,_,I2.laid (o:=.lst (kvs.map (·.2))) kp (aR _) ?_,rfl,q _ (I2.az.fresh (aR _))⟩
 refine(show bT X.prog X.w _ h' _ (.lst (kvs.map (·.2))) from⟨by rw[aU];exact hz,ua.toList,c',?_,by rw[Array.toArray_toList];exact e⟩)
 have e3:ua.size=vs.length:=tU.1
 have hv:ua.toList=vs.map (·.2):=by
  refine List.ext_getElem? fun j=>?_
  rw[cE]
  cases ej:vs[j]? with
  |none=>exact Kh.mpr (by rw[BO];have:=Kh.mp ej;omega)
  |some y =>
   have hj:j<ua.size:=by have:=(bt.mp ej).1;omega
   obtain⟨k,hk⟩:=tU.2 j ua[j] (by simp[hj])
   rw[ej]at hk
   rw[B1,Array.getElem?_eq_getElem hj]
   cases hk;rfl
 rw[hv]
 exact Gr rv
noncomputable def pJ(f:Ev→Option (M×D)):Ev→Option (M×D):=fun e=>(f e).bind fun x=>match x.2 with
 |.dk ks=>dO x.1 (ks.map (·.2))
 |_=>none
theorem VF{te:TE}{f:Ev→Option (M×D)}(h:JT K te f):JT K (Ld te) (pJ f):=by
 intro H₀ O H σ env Q m d R e q
 obtain⟨⟨mx,dx⟩,ex,e⟩:=ao e
 cases dx<;>try (cases e;done)
 refine h H₀ O H σ env _ mx _ R ex fun v H1 s1 h1=>?_
 have R1:=R.keep s1
 obtain⟨a,kvs,rfl,rd,en⟩:=h1.h0.dk
 exact⟨a,kvs,rfl,rd,fun l hl=>q _ _ (s1.trans (cq hl)) ((sx R1.od R1.hd hl en.2 e).hb fun a z=>s1.free z)⟩
noncomputable abbrev Fj:=Ev→Option (M×D)
noncomputable def xK:List (Fj×Fj)→Ev→Option (List (Key×D))
 |[],_=>some []
 | (fk,fv)::r,e=>(fk e).bind fun y=>(keyOf y.2).bind fun k=>(fv e).bind fun x=>if x.2.bx=true then (xK r e).bind fun l=>some ((k,x.2)::l)else none
noncomputable def sQ(l:List (Key×D)):List (Key×D):=l.foldl (fun acc kv=>putD acc kv.1 kv.2) []
noncomputable def tI(fs:List (Fj×Fj)):Ev→Option (M×D):=fun e=>(xK fs e).bind fun l=>if l.length≤15 then some (.un,.dk (sQ l))else none
inductive rK (K:PySem.W.Frag):List (TE×TE)→List (Fj×Fj)→Prop
 |nil:rK K [] []
 |cons {tk tv:TE}{fk fv:Fj}{ts:List (TE×TE)}{fs:List (Fj×Fj)}:JT K tk fk→JT K tv fv→rK K ts fs→rK K ((tk,tv)::ts) ((fk,fv)::fs)
theorem Gu{N:Addr→Prop}:∀{ts:List (TE×TE)}{fs:List (Fj×Fj)}{H:Hp}{l:List (Key×D)}{Q:List (V×V)→Hp→Prop},rK K ts fs→cZ K H₀ O H σ env→xK fs env=some l→(∀(kvs:List (Key×V)) H',aA H H'→Ent K N H' kvs l→Q (kvs.map fun kv=>(kV kv.1,kv.2)) H')→wa ts σ H Q
 |_,_,H,l,Q,.nil,R,e,q=>by
  cases e
  exact q [] H (aA.refl H) ⟨rfl,.nil⟩
 |_,_,H,l,Q,.cons (fs:=fs) hk hv hr,R,e,q=>by
  obtain⟨y,ey,e⟩:=ao e
  obtain⟨k,ek,e⟩:=ao e
  obtain⟨x,ex,e⟩:=ao e
  split at e
  ·rename_i hi
   obtain⟨r,er,e⟩:=ao e
   cases e
   refine hk H₀ O H σ env _ y.1 y.2 R ey fun w H1 s1 h1=>?_
   refine hv H₀ O H1 σ env _ x.1 x.2 (R.keep s1) ex fun u H2 s2 h2=>?_
   obtain rfl:=lB ek h1.weak
   refine Gu (N:=N) hr ((R.keep s1).keep s2) er fun kvs H3 s3 en=>?_
   exact q ((k,u)::kvs) H3 ((s1.trans s2).trans s3) ⟨by rw[bF,bF,en.1],.cons ((h2.weak.im hi).keep (.same s3)) en.2⟩
  ·cases e
theorem EL{N:Addr→Prop}:∀{more:List (Key×V)}{l:List (Key×D)}{kvs:List (Key×V)}{ks:List (Key×D)},Ent K N H more l→Ent K N H kvs ks→Ent K N H (i9 kvs more) (l.foldl (fun acc kv=>putD acc kv.1 kv.2) ks)
  |[],l,kvs,ks,e,h=>by
    cases l with
    |nil=>exact h
    |cons _ _=>exact absurd e.len (by simp)
  |p::more,l,kvs,ks,e,h=>by
    cases l with
    |nil=>exact absurd e.len (by simp)
    |cons z l =>
      obtain⟨e1,r,e2⟩:=e.cons_inv
      have:=h.put (k:=p.1) r
      rw[show i9 kvs (p::more)=i9 (putK kvs p.1 p.2) more from rfl,List.foldl_cons,←e1]
      exact EL e2 this
theorem RP{ts:List (TE×TE)}{fs:List (Fj×Fj)}(h:rK K ts fs):JT K (Ie ts) (tI fs):=by
 intro H₀ O H σ env Q m d R e q
 obtain⟨l,el,e⟩:=ao e
 split at e
 ·rename_i hl
  cases e
  intro p hp
  have s0:aA H (upd H p (.dK [])):=cq hp
  refine Gu (N:=fun _=>False) h (R.keep s0) el fun kvs H2 s2 en=>⟨s2 _ _ a9,kvs,rfl,by rw[en.len];exact hl,?_⟩
  have s3:aA H (upd H2 p (.dK (i9 [] kvs))):=fun a o ha=>by
   rw[ay (eD ha hp)];exact s2 _ _ (s0 _ _ ha)
  refine q _ _ s3 ⟨p,rfl,hp,lC R.hd hp,ig R.od hp,_,a9,?_⟩
  have kp:Keeps (fun _=>False) H2 (upd H2 p (.dK (i9 [] kvs))):=fun a o ha z=>by
   have gk:a≠p:=fun w=>by
    subst w
    rw[s2 _ _ a9]at ha;cases ha
    exact z.elim id id
   rw[ay gk];exact ha
  have em:=EL (kvs:=[]) (ks:=[]) en ⟨rfl,.nil⟩
  exact⟨em.1,(em.2.keep kp).wk fun _ z _=>z.elim⟩
 ·cases e
noncomputable def w4(n:Int)(fs:Ev→Option (List (M×D))):Ev→Option (List (M×D)):=fun e=>(fs e).bind fun ak=>some (ak++[(.fr,.int n)])
theorem PV{k:Nat}{n:Int}{F:List D→Option (M×D)}{ta:TA}{fs:Ev→Option (List (M×D))}{E:XK}(ha:gQ K ta fs)(hl:∀e ak,fs e=some ak→ak.length+1=k):JT K (j7 (k7 K k F) [.int n] E ta) (aI F (w4 n fs)):=by
 intro H₀ O H σ env Q m d R h q
 obtain⟨Zd,e',h⟩:=ao h
 obtain⟨ak,e,em⟩:=ao e'
 cases em
 refine ha H₀ O H σ env _ ak R e fun vs H1 s1 h1=>?_
 have R1:=R.keep s1
 refine⟨by rw[b9,←cJ h1];exact hl _ _ e,_,m,d,?_,h,fun v H2 s2 h2=>?_⟩
 ·rw[dh]
  exact(h1.gf (fun md hm v hv=>hv.weak)).app (.cons (.int n) .nil)
 ·exact q v H2 (s1.trans s2) ((zR R1.od R1.hd h2).hb fun a z=>s1.free z)
end
end J
set_option genInjectivity false
set_option genSizeOf false
namespace C
open PySem PySem.Spec L2 J
inductive Bo where|add|sub|mul|div|mod|pow|band|bor|bxor
inductive Co where|lt|gt|eq|ne|vg|vh|vi|yM|rL|jR|yN
inductive Uo where|neg
inductive Fb where|int|dict|list|len|abs|iX|all|any
inductive Ms where|join
noncomputable def Bo.op:Bo→Operator
 |.add=>.Add
 |.sub=>.Sub
 |.mul=>.Mult
 |.div=>.FloorDiv
 |.mod=>.Mod
 |.pow=>.Pow
 |.band=>.BitAnd
 |.bor=>.BitOr
 |.bxor=>.BitXor
noncomputable def Bo.g:Bo→M×D→M×D→Option (M×D)
 |.add=>aW
 |.sub=>fj
 |.mul=>c6
 |.div=>bD
 |.mod=>aY
 |.pow=>oI
 |.band=>ou
 |.bor=>oM
 |.bxor=>oy
theorem Bo.ok{K:PySem.W.Frag}:∀o:Bo,∃r,(∀Z:Cx,Z.K=K→bA Z (binaryOp o.op) r)∧JR K r o.g
 |.add=>⟨_,fun _ h=>Rb h,Rc⟩
 |.sub=>⟨_,fun _ _=>SQ,Tt⟩
 |.mul=>⟨_,fun _ _=>SR,Tv⟩
 |.div=>⟨_,fun _ _=>Pn,QY⟩
 |.mod=>⟨_,fun _ _=>SV,Tw⟩
 |.pow=>⟨_,fun _ _=>SW,Tx⟩
 |.band=>⟨_,fun _ _=>SX,QW⟩
 |.bor=>⟨_,fun _ _=>Vb,T5⟩
 |.bxor=>⟨_,fun _ _=>SY,QX⟩
noncomputable def Co.op:Co→CmpOp
 |.lt=>.Lt
 |.gt=>.Gt
 |.eq=>.Eq
 |.ne=>.NotEq
 |.vg=>.Is
 |.vh=>.IsNot
 |.vi=>.In
 |.yM=>.Eq
 |.rL=>.NotEq
 |.jR=>.Eq
 |.yN=>.NotEq
noncomputable def Co.g:Co→M×D→M×D→Option (M×D)
 |.lt=>dY
 |.gt=>dN
 |.eq=>aQ
 |.ne=>bV
 |.vg=>jn
 |.vh=>kc
 |.vi=>oN false
 |.yM=>lQ
 |.rL=>fu
 |.jR=>iK false
 |.yN=>iK true
theorem Co.ok{K:PySem.W.Frag}:∀o:Co,∃r,(∀Z:Cx,Z.K=K→Z.A.units+64<cLine→bA Z (compareOp o.op) r)∧JR K r o.g
 |.lt=>⟨_,fun _ _ _=>Ve,Vm⟩
 |.gt=>⟨_,fun _ _ _=>Vf,Vn⟩
 |.eq=>⟨_,fun _ _ _=>Vc,Vo⟩
 |.ne=>⟨_,fun _ _ _=>Vd,Vp⟩
 |.vg=>⟨_,fun _ _ _=>S1,Tz⟩
 |.vh=>⟨_,fun _ _ _=>Qn,QG⟩
 |.vi=>⟨_,fun _ h _=>M4 h,Vv⟩
 |.yM=>⟨_,fun _ h u=>Uj h u,Uh⟩
 |.rL=>⟨_,fun _ h u=>Uk h u,Ui⟩
 |.jR=>⟨_,fun _ h u=>RC h u,Hm⟩
 |.yN=>⟨_,fun _ h u=>RD h u,Hm⟩
noncomputable def Uo.op:Uo→UnaryOp
 |.neg=>.USub
noncomputable def Uo.g:Uo→M×D→Option (M×D)
 |.neg=>eQ
theorem Uo.ok{K:PySem.W.Frag}:∀o:Uo,∃r,(∀Z:Cx,yn Z (unaryOp o.op) r)∧JU K r o.g
 |.neg=>⟨_,fun _=>S0,T4⟩
noncomputable def Fb.nm:Fb→String
 |.int => "int"
 |.dict => "dict"
 |.list => "list"
 |.len => "len"
 |.abs => "abs"
 |.iX => "isinstance"
 |.all => "all"
 |.any => "any"
noncomputable def Fb.g:Fb→List (M×D)→Option (M×D)
 |.int=>c7
 |.dict=>gG
 |.list=>qu
 |.len=>bI
 |.abs=>tW
 |.iX=>eR
 |.all=>oP
 |.any=>oQ
noncomputable def Ms.nm:Ms→String
 |.join => "join"
noncomputable def Ms.g:Ms→M×D→List (M×D)→Option (M×D)
 |.join=>qy
inductive Gv where|s (x:Str)|t (l:List Str)
noncomputable def Gv.d:Gv→D
 |.s x=>.str x
 |.t l=>.tup (l.map .str)
mutual
inductive X where|v (i:Nat)|ki (i:Int)|ks (s:Str)|kb (b:Bool)|kn|ty (n:String)|bo (o:Bo) (a b:X)|co (o:Co) (a b:X)|uo (o:Uo) (a:X)|an (a b:X)|or (a b:X)|nt (a:X)|ie (t:T) (a b:X)|tu (l:A)|li (l:A)|dK|ix (a b:X)|dg (a b:X)|g2 (d k x:X)|sl (a:X) (lo hi:P)|ms (m:Ms) (o:X) (l:A)|fb (f:Fb) (l:A)|ca (f:Nat) (l:A)|cp (i:I) (ix:List Nat) (t:T) (e:X)|dD (l:Pp)|lv (a:X)|cd (f:Nat) (l:A) (n:Int)
inductive Pp where|n|c (a b:X) (l:Pp)
inductive A where|n|c (a:X) (l:A)
inductive T where|b (x:X)|c (o:Co) (a b:X)|d (n:Bool) (a b:X)|t (n:Bool) (a b:X)|h (o p:Co) (a b c:X)|an (a b:T)|or (a b:T)|nt (a:T)|y
inductive P where|n|s (x:X)
inductive I where|r1 (l:A)|en (l:A)|s (x:X)|t (x:X)|l (x:X)
end
mutual
inductive G where|n (i:Nat)|t (k:Nat) (l:Gs)|l (k:Nat) (l:Gs)
inductive Gs where|n|c (g:G) (l:Gs)
end
inductive L where|rt (x:X)|st (i:Nat) (x:X)|sc (j:Nat) (i:I) (ix:List Nat) (q:T) (e:X)|as (g:G) (x:X)|si (k:Nat) (i x:X)|dp (k:Nat) (i x:X)|ap (k:Nat) (x:X)|na (k:Nat) (i x:X)|ne (i:Nat) (it:I)|rT (l:A)|iD (f:Nat) (sl:List Nat) (l:A)|iS (i f:Nat) (sl:List Nat) (l:A)
inductive Ch where|a (k x:X)|d (k y x:X)
mutual
inductive S where|l (x:L)|ie (t:T) (a b:B)|fo (i:I) (g:G) (b:B)|fi (k:Nat) (g:G) (b:B)|fk (k:Nat) (g:G) (b:B)|wh (t:T) (b:B)|fz (k:Nat) (s:S)
inductive B where|n|o (s:S)|c (s:S) (b:B)|u (i:Nat) (x:X) (q:T) (r:X) (cs:List Ch) (b:B)
end
inductive FT where
 |p (F:List D→Option (M×D))|io (l:List Nat) (F:List D→Option (M×D×List D))|oo (F:List D→Option D)
noncomputable def FT.f:Option FT→List D→Option (M×D)
 |some (.p F)=>F
 |_=>fun _=>none
noncomputable def FT.l:Option FT→List Nat
 |some (.io l _)=>l
 |_=>[]
noncomputable def FT.o:Option FT→List D→Option (M×D×List D)
 |some (.io _ F)=>F
 |_=>fun _=>none
noncomputable def FT.q:Option FT→List D→Option D
 |some (.oo F)=>F
 |_=>fun _=>none
mutual
noncomputable def eX(t:List FT):X→Ev→Option (M×D)
 |.v i=>jV i
 |.ki i=>jC (.int i)
 |.ks s=>jC (.str s)
 |.kb b=>jC (.bl b)
 |.kn=>jC .non
 |.ty n=>jC (.ty n)
 |.bo o a b=>ae o.g (eX t a) (eX t b)
 |.co o a b=>ae o.g (eX t a) (eX t b)
 |.uo o a=>cV o.g (eX t a)
 |.an a b=>ky (eX t a) (eX t b)
 |.or a b=>yz (eX t a) (eX t b)
 |.nt a=>xC (eX t a)
 |.ie c a b=>qF (eT t c) (eX t a) (eX t b)
 |.tu l=>ck (eA t l)
 |.li l=>bJ (eA t l)
 |.dK=>sO
 |.ix a b=>ae aj (eX t a) (eX t b)
 |.dg a b=>iA (eX t a) (eX t b)
 |.g2 d k x=>j5 (eX t d) (eX t k) (eX t x)
 |.sl a lo hi=>gj eW (eX t a) (eP t lo) (eP t hi)
 |.ms m o l=>yD uV m.g (eX t o) (eA t l)
 |.fb f l=>aD f.g (eA t l)
 |.ca f l=>aI (FT.f t[f]?) (eA t l)
 |.cp i ix c e=>gF (eI t i) ix (eT t c) (eX t e)
 |.dD l=>tI (C4 t l)
 |.lv a=>pJ (eX t a)
 |.cd f l n=>aI (FT.f t[f]?) (w4 n (eA t l))
noncomputable def C4(t:List FT):Pp→List (Fj×Fj)
 |.n=>[]
 |.c a b l=>(eX t a,eX t b)::C4 t l
noncomputable def eA(t:List FT):A→Ev→Option (List (M×D))
 |.n=>ah
 |.c a l=>ag (eX t a) (eA t l)
noncomputable def eT(t:List FT):T→Ev→Option Bool
 |.b x=>jB (eX t x)
 |.c o a b=>jB (ae o.g (eX t a) (eX t b))
 |.d n a b=>jB (Bj n (eX t a) (eX t b))
 |.t n a b=>jB (Bp n (eX t a) (eX t b))
 |.h o p a b c=>jB (G5 o.g p.g (eX t a) (eX t b) (eX t c))
 |.an a b=>bY (eT t a) (eT t b)
 |.or a b=>cB (eT t a) (eT t b)
 |.nt a=>fm (eT t a)
 |.y=>ft
noncomputable def eP(t:List FT):P→Ev→Option (Option Int)
 |.n=>gu
 |.s x=>fF (eX t x)
noncomputable def eI(t:List FT):I→Ev→Option (M×List D)
 |.r1 l=>iI (eA t l)
 |.en l=>pG (eA t l)
 |.s x=>K5 (eX t x)
 |.t x=>yB (eX t x)
 |.l x=>gn (eX t x)
end
mutual
noncomputable def eG:G→M×D→Ev→Option Ev
 |.n i=>gN i
 |.t k l=>gT k (yO l)
 |.l k l=>gL k (yO l)
noncomputable def yO:Gs→M→List D→Ev→Option Ev
 |.n=>fG
 |.c g l=>b8 (eG g) (yO l)
end
noncomputable def qP:A→List (Nat×Nat)
 |.n=>[]
 |.c (.v i) l=>(0,i)::yF (qP l)
 |.c _ l=>yF (qP l)
noncomputable def eL(t:List FT):L→Ev→Option Fl
 |.rt x=>aP (eX t x)
 |.st i x=>aH i (eX t x)
 |.sc j i ix q e=>aH j (eX t (.cp i ix q e))
 |.as g x=>xD (eG g) (eX t x)
 |.si k i x=>qe k (eX t i) (eX t x)
 |.dp k i x=>fH k (eX t i) (eX t x)
 |.ap k x=>bN k (eX t x)
 |.na k i x=>IG k (eX t i) (eX t x)
 |.ne i it=>IE i (eI t it)
 |.rT l=>qz (eA t l)
 |.iD f sl l=>i7 (FT.l t[f]?) sl (qP l) (FT.o t[f]?) (eA t l)
 |.iS i f sl l=>sN i (FT.l t[f]?) sl (qP l) (FT.o t[f]?) (eA t l)
noncomputable def C5(t:List FT):Ch→Ev→Nat→List D→Bool
 |.a k x=>oS (eX t k) (eX t x)
 |.d k y x=>tZ (eX t k) (eX t y) (eX t x)
mutual
noncomputable def eS(t:List FT):S→Ev→Option Fl
 |.l x=>eL t x
 |.ie c a b=>aL (eT t c) (eB t a) (eB t b)
 |.fo i g b=>fq (eI t i) (eG g) (eB t b)
 |.fi k g b=>wX k (eG g) (eB t b)
 |.fk k g b=>tG C3 k (eG g) (eB t b)
 |.wh c b=>oj (eT t c) (eB t b)
 |.fz k s=>jo k (eS t s)
noncomputable def eB(t:List FT):B→Ev→Option Fl
 |.n=>a8
 |.o s=>eS t s
 |.c s b=>aw (eS t s) (eB t b)
 |.u i x q r cs b=>yL i (eX t x) (eT t q) (eX t r) (cs.map (C5 t)) (eB t b)
end
end C
set_option genInjectivity true
set_option genSizeOf true
namespace C
open PySem PySem.Spec L2 J
noncomputable def du:Expr→Bool
 |.Starred ..=>false
 |_=>true
noncomputable def mz:Expr→Bool
 |.Slice ..=>false
 |_=>true
noncomputable def vj:Expr→Bool
 |.Name ..=>true
 |.Call ..=>true
 |.Subscript ..=>true
 |_=>false
noncomputable def lj:Expr→Bool
 |.Name ..=>true
 |.Constant ..=>true
 |.Subscript ..=>true
 |.Call _ (_::_) _ _=>true
 |_=>false
noncomputable def iL:Expr→Bool
 |.Set ..=>false
 |_=>true
noncomputable def lJ:Expr→Bool
 |.ListComp ..=>false
 |.SetComp ..=>false
 |.DictComp ..=>false
 |_=>true
noncomputable def w5:Expr→Bool
 |.Tuple ..=>true
 |_=>false
theorem cG{e:Expr}(h:du e=true){es:List Expr}{env:Env}:starEach (e::es) env=(false,eval e env)::starEach es env:=by
 cases e<;>first|rfl|cases h
theorem w6{i:Expr}(h:mz i=true):FX i:=by
 intro o v;cases i<;>first|rfl|cases h
theorem RQ{i:Expr}(h:mz i=true):A1 i:=by
 intro o v;cases i<;>first|rfl|cases h
theorem UB{i o:Expr}{pos:Pos}{env:Env}(h:mz i=true)(v:Value):assign (Expr.Subscript o i pos) env v=(do
  let ov ←holding [v] (eval o env)
  let iv ←holding [v,ov] (eval i env)
  standAt pos
  holding [v,ov,iv] (setItem ov iv v)
  PySem.release [v,ov,iv] []):=by
 cases i<;>first|rfl|cases h
theorem UC{a:Expr}{env:Env}(h:vj a=true)(whole:Sem Value):PySem.isTrue a env whole=(do
  let v ←whole
  standAt (Expr.pos a)
  holding [v] (truthy v)):=by
 cases a<;>first|rfl|cases h
theorem qj{o:Expr}{m:Str}{env:Env}{w:Sem Value}(h:lj o=true):attributeBase o m env w=w:=by
 cases o<;>first|rfl | (cases h;done)|skip
 rename_i f l kw p
 cases l with
 |nil=>cases h
 |cons a l=>cases f<;>rfl
theorem p6{op:CmpOp}{e:Expr}(h:iL e=true):behindInMarks op e=false:=by
 cases e<;>first|rfl|cases h
theorem jY{e:Expr}{env:Env}(h:iL e=true)(x:Value):foldedSetIterable e env x=pure x:=by
 cases e<;>first|rfl|cases h
noncomputable def C6(sc:Scope)(x:Str):Bool:=match sc.names.lookup x with
 |some .local=>true
 |some .cell=>true
 |some .free=>true
 |_=>false
theorem Hs{sc:Scope}{x:Str}(h:C6 sc x=true):uz sc x:=by
 unfold C6 at h;unfold uz
 split at h<;>first|exact absurd h aZ|simp_all
noncomputable def gl(sc:Scope)(x:Str):Bool:=match sc.names.lookup x with
 |some .globalImplicit=>true
 |_=>false
theorem VG{sc:Scope}{x:Str}(h:gl sc x=true):sc.names.lookup x=some .globalImplicit:=by
 unfold gl at h
 split at h<;>first|exact absurd h aZ|assumption
noncomputable def rl(sc au:Scope):Scope :=
  { kind:=au.kind,names:=au.names.map (fun(n,k)=>if (k==NameKind.free&&sc.kind==ScopeKind.function&&sc.names.lookup n==some NameKind.cell)=true then (n,NameKind.cell)else (n,k)),
    isGenerator:=au.isGenerator,isCoroutine:=au.isCoroutine,more:=au.more }
noncomputable def C7(N N':List Str)(sc au:Scope)(x:Str)(ix:List Nat):Bool :=
 decide (au.kind=.function∧(∀y∈au.names,y.2≠.cell)∧(∀y∈au.names,y.2=.local→au.names.lookup y.1=some .local)∧au.names.lookup x=some .local ∧
  (∀y∈au.names,y.2=.free→sc.names.lookup y.1=some .cell)∧N'.Nodup∧N'[0]?=some x∧N'.length=ix.length+1 ∧
  (∀p∈ix.zip N'.tail,N[p.1]?=some p.2∧sc.names.lookup p.2=some .cell∧au.names.lookup p.2=some .free))
theorem Al{N N':List Str}{sc au:Scope}{x:Str}{ix:List Nat}(h:C7 N N' sc au x ix=true):j4 N N' sc au x ix:=by
 obtain⟨h1,h2,h3,h4,h5,h6,h7,h8,h9⟩:=bu h
 exact⟨h1,h2,h3,h4,h5,h6,h7,h8,h9⟩
structure Fi where
 nm:Str
 ar:Nat
 lv:Nat
 io:Option (List Nat):=none
 df:Option Int:=none
noncomputable def Gv.is:Gv→Gv→Bool
 |.s x,.s y=>decide (x=y)
 |.t x,.t y=>decide (x=y)
 |_,_=>false
structure Cf where
 bs:List String
 gs:List (Str×Gv)
 fs:List Fi
noncomputable def ns(N:List Str)(x:Str)(ix:List Nat):List Str:=x::ix.map fun i=>(N[i]?).getD ""
noncomputable def tys:List String:=["bool", "int", "str", "tuple", "list", "dict"]
noncomputable def nin(n:Bool):CmpOp:=if n then .NotIn else .In
noncomputable def on{α:Type}(o:Option α)(f:α→Bool):Bool:=match o with
 |some a=>f a
 |none=>false
theorem ax{α:Type}{o:Option α}{f:α→Bool}(h:on o f=true):∃a,o=some a∧f a=true:=by
 cases o with
 |none=>cases h
 |some a=>exact⟨a,rfl,h⟩
noncomputable def rM:Expr→Option Str
 |.Name x _=>some x
 |_=>none
noncomputable def eK:Expr→Option Const
 |.Constant c _ _=>some c
 |_=>none
noncomputable def Le:Const→Option Int
 |.int i=>some i
 |_=>none
noncomputable def Lf:Const→Option Str
 |.str i=>some i
 |_=>none
noncomputable def Lg:Const→Option Bool
 |.bool i=>some i
 |_=>none
noncomputable def Lh:Const→Bool
 |.none=>true
 |_=>false
noncomputable def Li:Expr→Option (Expr×Operator×Expr)
 |.BinOp l op r _=>some (l,op,r)
 |_=>none
noncomputable def yP:Expr→Option (UnaryOp×Expr)
 |.UnaryOp op e _=>some (op,e)
 |_=>none
noncomputable def C8:Expr→Option (Expr×List CmpOp×List Expr)
 |.Compare l ops rs _=>some (l,ops,rs)
 |_=>none
noncomputable def l1{α:Type}:List α→Option α
 |[a]=>some a
 |_=>none
noncomputable def l2{α:Type}:List α→Option (α×α)
 |[a,b]=>some (a,b)
 |_=>none
noncomputable def jS{α:Type}:List α→Option (α×List α)
 |a::l=>some (a,l)
 |_=>none
noncomputable def vk(e:Expr):Option (Expr×CmpOp×Expr):=(C8 e).bind fun q=>(l1 q.2.1).bind fun op=>(l1 q.2.2).map fun r=>(q.1,op,r)
noncomputable def Lj(e:Expr):Option (Expr×CmpOp×CmpOp×Expr×Expr):=(C8 e).bind fun q=>(l2 q.2.1).bind fun op=>(l2 q.2.2).map fun r=>(q.1,op.1,op.2,r.1,r.2)
noncomputable def Lk:Expr→Option (BoolOp×List Expr×Pos)
 |.BoolOp op vs pos=>some (op,vs,pos)
 |_=>none
noncomputable def ub(o:BoolOp)(e:Expr):Option (Expr×Expr):=(Lk e).bind fun q=>if q.1=o then (jS q.2.1).bind fun a=>(jS a.2).map fun b=>(a.1,match b.2 with
 |[]=>b.1
 |_=>.BoolOp o (b.1::b.2) q.2.2)else none
noncomputable def Ln:Expr→Option (Expr×Expr×Expr)
 |.IfExp e l r _=>some (e,l,r)
 |_=>none
noncomputable def vm:Expr→Option (List Expr)
 |.Tuple es _ _=>some es
 |_=>none
noncomputable def Lp:Expr→Option (List Expr)
 |.List es _=>some es
 |_=>none
noncomputable def C9:Expr→Option (List (Option Expr)×List Expr)
 |.Dict ks vs _=>some (ks,vs)
 |_=>none
noncomputable def ll:Expr→Option (Expr×Expr)
 |.Subscript l r _=>some (l,r)
 |_=>none
noncomputable def Lq:Expr→Option (Option Expr×Option Expr)
 |.Slice lo hi none _=>some (lo,hi)
 |_=>none
noncomputable def Dc:Expr→Option (Expr×List Expr×List Keyword×Pos)
 |.Call f as kw cp=>some (f,as,kw,cp)
 |_=>none
noncomputable def Lr:Expr→Option (Expr×Str×Pos)
 |.Attribute o m ap=>some (o,m,ap)
 |_=>none
noncomputable def eM(nm:String)(e:Expr):Option (Expr×List Expr):=(Dc e).bind fun q=>(Lr q.1).bind fun a=>if a.2.1=Str.ofString nm∧q.2.2.1.isEmpty=true∧lj a.1=true∧(a.2.2.endLine==q.2.2.2.line)=true∧q.2.1.all du=true then some (a.1,q.2.1)else none
noncomputable def eN(e:Expr):Option (Str×List Expr):=(Dc e).bind fun q=>(rM q.1).bind fun x=>if q.2.2.1.isEmpty=true∧q.2.1.all du=true then some (x,q.2.1)else none
noncomputable def xM:Expr→Option (Expr×Str×Pos×Expr×List Expr×Scope×Pos)
 |.ListComp el [⟨.Name z pz,it,ifs,0⟩] au ep=>some (el,z,pz,it,ifs,au,ep)
 |_=>none
theorem ip{α β:Type}{o:Option α}{f:α→Option β}{b:β}(h:o.bind f=some b):∃a,o=some a∧f a=some b:=by
 cases o with
 |none=>cases h
 |some a=>exact⟨a,rfl,h⟩
theorem wu{α β:Type}{o:Option α}{f:α→β}{b:β}(h:o.map f=some b):∃a,o=some a∧f a=b:=by
 cases o with
 |none=>cases h
 |some a=>exact⟨a,rfl,by simpa using h⟩
theorem qk{e:Expr}{x:Str}(h:rM e=some x):∃p,e=.Name x p:=by
 cases e<;>cases h;exact⟨_,rfl⟩
theorem w9{e:Expr}{k:Const}(h:eK e=some k):∃j p,e=.Constant k j p:=by
 cases e<;>cases h;exact⟨_,_,rfl⟩
theorem VH{k:Const}{i:Int}(h:Le k=some i):k=.int i:=by
 cases k<;>cases h;rfl
theorem VJ{k:Const}{i:Str}(h:Lf k=some i):k=.str i:=by
 cases k<;>cases h;rfl
theorem VL{k:Const}{i:Bool}(h:Lg k=some i):k=.bool i:=by
 cases k<;>cases h;rfl
theorem VM{k:Const}(h:Lh k=true):k=.none:=by
 cases k<;>first|rfl|exact absurd h aZ
theorem UD{e l r:Expr}{op:Operator}(h:Li e=some (l,op,r)):∃p,e=.BinOp l op r p:=by
 cases e<;>cases h;exact⟨_,rfl⟩
theorem Am{e a:Expr}{op:UnaryOp}(h:yP e=some (op,a)):∃p,e=.UnaryOp op a p:=by
 cases e<;>cases h;exact⟨_,rfl⟩
theorem iB{α:Type}{l:List α}{a:α}(h:l1 l=some a):l=[a]:=by
 cases l with
 |nil=>cases h
 |cons b l=>cases l<;>cases h;rfl
theorem AJ{α:Type}{l:List α}{a:α×α}(h:l2 l=some a):l=[a.1,a.2]:=by
 cases l with
 |nil=>cases h
 |cons b l =>
  cases l with
  |nil=>cases h
  |cons d l=>cases l<;>cases h;rfl
theorem iq{α:Type}{l:List α}{a:α×List α}(h:jS l=some a):l=a.1::a.2:=by
 cases l<;>cases h;rfl
theorem Ht{e:Expr}{q:Expr×List CmpOp×List Expr}(h:C8 e=some q):∃p,e=.Compare q.1 q.2.1 q.2.2 p:=by
 cases e<;>cases h;exact⟨_,rfl⟩
theorem wx{e l r:Expr}{op:CmpOp}(h:vk e=some (l,op,r)):∃p,e=.Compare l [op] [r] p:=by
 obtain⟨q,h1,h⟩:=ip h
 obtain⟨a,h2,h⟩:=ip h
 obtain⟨b,h3,h⟩:=wu h
 cases h
 obtain⟨p,rfl⟩:=Ht h1
 exact⟨p,by rw[iB h2,iB h3]⟩
theorem UE{e l m r:Expr}{op op':CmpOp}(h:Lj e=some (l,op,op',m,r)):∃p,e=.Compare l [op,op'] [m,r] p:=by
 obtain⟨q,h1,h⟩:=ip h
 obtain⟨a,h2,h⟩:=ip h
 obtain⟨b,h3,h⟩:=wu h
 cases h
 obtain⟨p,rfl⟩:=Ht h1
 exact⟨p,by rw[AJ h2,AJ h3]⟩
theorem UG{e:Expr}{q:BoolOp×List Expr×Pos}(h:Lk e=some q):e=.BoolOp q.1 q.2.1 q.2.2:=by
 cases e<;>cases h;rfl
theorem vV{o:BoolOp}{e a b:Expr}(h:ub o e=some (a,b)):∃m rest pos,e=.BoolOp o (a::m::rest) pos∧((rest=[]∧b=m)∨b=.BoolOp o (m::rest) pos):=by
 obtain⟨q,h1,g⟩:=ip h
 have e0:=UG h1
 by_cases e:q.1=o
 ·rw[if_pos e]at g
  obtain⟨x,h2,g⟩:=ip g
  obtain⟨y,h3,g⟩:=wu g
  have e2:q.2.1=x.1::y.1::y.2:=by rw[iq h2,iq h3]
  have ea:x.1=a:=cP Prod.fst g
  have eb:=cP Prod.snd g
  refine⟨y.1,y.2,q.2.2,by rw[e0,e2,e,ea],?_⟩
  cases hy:y.2 with
  |nil=>rw[hy]at eb;exact .inl ⟨rfl,eb.symm⟩
  |cons z zs=>rw[hy]at eb;exact .inr eb.symm
 ·rw[if_neg e]at g;cases g
theorem UH{e a b d:Expr}(h:Ln e=some (a,b,d)):∃p,e=.IfExp a b d p:=by
 cases e<;>cases h;exact⟨_,rfl⟩
theorem wz{e:Expr}{es:List Expr}(h:vm e=some es):∃k p,e=.Tuple es k p:=by
 cases e<;>cases h;exact⟨_,_,rfl⟩
theorem UI{e:Expr}{es:List Expr}(h:Lp e=some es):∃p,e=.List es p:=by
 cases e<;>cases h;exact⟨_,rfl⟩
theorem Hu{e:Expr}{q:List (Option Expr)×List Expr}(h:C9 e=some q):∃p,e=.Dict q.1 q.2 p:=by
 cases e<;>cases h;exact⟨_,rfl⟩
theorem j6{e l r:Expr}(h:ll e=some (l,r)):∃p,e=.Subscript l r p:=by
 cases e<;>cases h;exact⟨_,rfl⟩
theorem UJ{e:Expr}{lo hi:Option Expr}(h:Lq e=some (lo,hi)):∃p,e=.Slice lo hi none p:=by
 cases e with
 |Slice a b st p=>cases st<;>cases h;exact⟨_,rfl⟩
 |_=>cases h
theorem Hv{e:Expr}{q:Expr×List Expr×List Keyword×Pos}(h:Dc e=some q):e=.Call q.1 q.2.1 q.2.2.1 q.2.2.2:=by
 cases e<;>cases h;rfl
theorem UK{e:Expr}{q:Expr×Str×Pos}(h:Lr e=some q):e=.Attribute q.1 q.2.1 q.2.2:=by
 cases e<;>cases h;rfl
theorem oA{nm:String}{e o:Expr}{as:List Expr}(h:eM nm e=some (o,as)):∃ap cp,e=.Call (.Attribute o (Str.ofString nm) ap) as [] cp∧lj o=true∧(ap.endLine==cp.line)=true∧as.all du=true:=by
 obtain⟨q,h1,h⟩:=ip h
 obtain⟨a,h2,h⟩:=ip h
 split at h
 ·rename_i g
  cases h
  refine⟨a.2.2,q.2.2.2,?_,g.2.2.1,g.2.2.2.1,g.2.2.2.2⟩
  rw[Hv h1,UK h2,g.1,fC.mp g.2.1]
 ·cases h
theorem oB{e:Expr}{x:Str}{as:List Expr}(h:eN e=some (x,as)):∃p cp,e=.Call (.Name x p) as [] cp∧as.all du=true:=by
 obtain⟨q,h1,h⟩:=ip h
 obtain⟨y,h2,h⟩:=ip h
 split at h
 ·rename_i g
  cases h
  obtain⟨p,e2⟩:=qk h2
  exact⟨p,q.2.2.2,by rw[Hv h1,e2,fC.mp g.1],g.2⟩
 ·cases h
theorem zX{e el it:Expr}{z:Str}{pz ep:Pos}{ifs:List Expr}{au:Scope}(h:xM e=some (el,z,pz,it,ifs,au,ep)):e=.ListComp el [⟨.Name z pz,it,ifs,0⟩] au ep:=by
 unfold xM at h
 split at h
 ·cases h;rfl
 ·cases h
noncomputable def De:T→Bool
 |.y=>true
 |_=>false
mutual
noncomputable def kX(c:Cf)(lv:Nat):X→Scope→List Str→Expr→Bool
 |.v i,sc,N,e=>on (rM e) fun x=>decide (N[i]?=some x)&&C6 sc x&&!(x == "__debug__")&&!(x == "__classdict__")
 |.ki i,_,_,e=>on (eK e) fun k=>on (Le k) fun j=>decide (i=j)
 |.ks i,_,_,e=>on (eK e) fun k=>on (Lf k) fun j=>decide (i=j)
 |.kb i,_,_,e=>on (eK e) fun k=>on (Lg k) fun j=>decide (i=j)
 |.kn,_,_,e=>on (eK e) Lh
 |.ty n,sc,_,e=>on (rM e) fun x=>decide (x=Str.ofString n)&&gl sc x&&c.bs.contains n&&tys.contains n
 |.bo o a b,sc,N,e=>on (Li e) fun q=>decide (q.2.1=o.op)&&kX c lv a sc N q.1&&kX c lv b sc N q.2.2
 |.co o a b,sc,N,e=>on (vk e) fun q=>decide (q.2.1=o.op)&&iL q.2.2&&kX c lv a sc N q.1&&kX c lv b sc N q.2.2
 |.uo o a,sc,N,e=>on (yP e) fun q=>decide (q.1=o.op)&&kX c lv a sc N q.2
 |.an a b,sc,N,e=>on (ub .And e) fun q=>kX c lv a sc N q.1&&kX c lv b sc N q.2
 |.or a b,sc,N,e=>on (ub .Or e) fun q=>kX c lv a sc N q.1&&kX c lv b sc N q.2
 |.nt a,sc,N,e=>on (yP e) fun q=>decide (q.1=.Not)&&kX c lv a sc N q.2
 |.ie t a b,sc,N,e=>on (Ln e) fun q=>kT c lv t sc N q.1&&kX c lv a sc N q.2.1&&kX c lv b sc N q.2.2
 |.tu l,sc,N,e=>on (vm e) fun es=>kA c lv l sc N es
 |.li l,sc,N,e=>on (Lp e) fun es=>kA c lv l sc N es
 |.dK,_,_,e=>on (C9 e) fun q=>q.1.isEmpty&&q.2.isEmpty
 |.ix a b,sc,N,e=>on (ll e) fun q=>mz q.2&&kX c lv a sc N q.1&&kX c lv b sc N q.2
 |.dg a b,sc,N,e=>on (ll e) fun q=>mz q.2&&kX c lv a sc N q.1&&kX c lv b sc N q.2
 |.g2 d k x,sc,N,e=>on (eM "get" e) fun q=>on (l2 q.2) fun a=>kX c lv d sc N q.1&&kX c lv k sc N a.1&&kX c lv x sc N a.2
 |.sl a lo hi,sc,N,e=>on (ll e) fun q=>on (Lq q.2) fun s=>kX c lv a sc N q.1&&kP c lv lo sc N s.1&&kP c lv hi sc N s.2
 |.ms m o l,sc,N,e=>on (eM m.nm e) fun q=>on (l1 q.2) fun a=>kX c lv o sc N q.1&&kA c lv l sc N [a]
 |.fb f l,sc,N,e=>on (eN e) fun q=>decide (q.1=Str.ofString f.nm)&&gl sc q.1&&c.bs.contains f.nm&&!q.2.isEmpty&&kA c lv l sc N q.2
 |.ca f l,sc,N,e=>on (eN e) fun q=>on c.fs[f]? fun i=>decide (q.1=i.nm)&&gl sc q.1&&!(q.1 == "__debug__")&&decide (i.lv≤lv)&&decide (q.2.length=i.ar)&&decide (i.io=none)&&!q.2.isEmpty&&kA c lv l sc N q.2
 |.cp i ix t e,sc,N,x=>on (xM x) fun q=>C7 N (ns N q.2.1 ix) sc q.2.2.2.2.2.1 q.2.1 ix&&iL q.2.2.2.1&&kI c lv i false sc N q.2.2.2.1&&((q.2.2.2.2.1.isEmpty&&De t)||on (l1 q.2.2.2.2.1) fun y=>kT c lv t (rl sc q.2.2.2.2.2.1) (ns N q.2.1 ix) y)&&kX c lv e (rl sc q.2.2.2.2.2.1) (ns N q.2.1 ix) q.1
 |.dD l,sc,N,e=>on (C9 e) fun q=>decide (q.1.length≤15)&&!q.1.isEmpty&&Dg c lv l sc N q.1 q.2
 |.lv a,sc,N,e=>on (eN e) fun q=>on (l1 q.2) fun r=>on (eM "values" r) fun u=>decide (q.1 = "list")&&gl sc q.1&&c.bs.contains "list" && u.2.isEmpty&&kX c lv a sc N u.1
 |.cd f l n,sc,N,e=>on (eN e) fun q=>on c.fs[f]? fun i=>decide (q.1=i.nm)&&gl sc q.1&&!(q.1 == "__debug__")&&decide (i.lv≤lv)&&decide (q.2.length+1=i.ar)&&decide (i.io=none∧i.df=some n)&&!q.2.isEmpty&&kA c lv l sc N q.2
noncomputable def Dg(c:Cf)(lv:Nat):Pp→Scope→List Str→List (Option Expr)→List Expr→Bool
 |.n,_,_,ks,vs=>ks.isEmpty&&vs.isEmpty
 |.c a b l,sc,N,ks,vs=>on (jS ks) fun k=>on k.1 fun k1=>on (jS vs) fun v=>kX c lv a sc N k1&&kX c lv b sc N v.1&&Dg c lv l sc N k.2 v.2
noncomputable def kA(c:Cf)(lv:Nat):A→Scope→List Str→List Expr→Bool
 |.n,_,_,es=>es.isEmpty
 |.c a l,sc,N,es=>on (jS es) fun q=>du q.1&&kX c lv a sc N q.1&&kA c lv l sc N q.2
noncomputable def kT(c:Cf)(lv:Nat):T→Scope→List Str→Expr→Bool
 |.b x,sc,N,e=>vj e&&kX c lv x sc N e
 |.c o a b,sc,N,e=>on (vk e) fun q=>decide (q.2.1=o.op)&&iL q.2.2&&kX c lv a sc N q.1&&kX c lv b sc N q.2.2
 |.d n a b,sc,N,e=>on (vk e) fun q=>decide (q.2.1=nin n)&&iL q.2.2&&kX c lv a sc N q.1&&kX c lv b sc N q.2.2
 |.t n a b,sc,N,e=>on (vk e) fun q=>decide (q.2.1=nin n)&&iL q.2.2&&kX c lv a sc N q.1&&kX c lv b sc N q.2.2
 |.h o p a b d,sc,N,e=>on (Lj e) fun q=>decide (q.2.1=o.op)&&decide (q.2.2.1=p.op)&&!lastMarks [q.2.1,q.2.2.1] [q.2.2.2.1,q.2.2.2.2]&&kX c lv a sc N q.1&&kX c lv b sc N q.2.2.2.1&&kX c lv d sc N q.2.2.2.2
 |.an a b,sc,N,e=>on (ub .And e) fun q=>kT c lv a sc N q.1&&kT c lv b sc N q.2
 |.or a b,sc,N,e=>on (ub .Or e) fun q=>kT c lv a sc N q.1&&kT c lv b sc N q.2
 |.nt a,sc,N,e=>on (yP e) fun q=>decide (q.1=.Not)&&kT c lv a sc N q.2
 |.y,_,_,_=>false
noncomputable def kP(c:Cf)(lv:Nat):P→Scope→List Str→Option Expr→Bool
 |.n,_,_,o=>o.isNone
 |.s x,sc,N,o=>on o fun e=>kX c lv x sc N e
noncomputable def kI(c:Cf)(lv:Nat):I→Bool→Scope→List Str→Expr→Bool
 |.r1 l,_,sc,N,e=>on (eN e) fun q=>decide (q.1 = "range")&&gl sc q.1&&c.bs.contains "range" && decide (q.2.length=1)&&kA c lv l sc N q.2
 |.en l,tg,sc,N,e=>on (eN e) fun q=>tg&&decide (q.1 = "enumerate")&&gl sc q.1&&c.bs.contains "enumerate" && decide (q.2.length=1)&&kA c lv l sc N q.2
 |.s x,_,sc,N,e=>kX c lv x sc N e
 |.t x,_,sc,N,e=>kX c lv x sc N e
 |.l x,_,sc,N,e=>kX c lv x sc N e
end
def Dh(P:Program)(w:World)(K:PySem.W.Frag)(mg:Str→Option Value)(base:Heap)(i:Fi)(sp:Sp):Prop :=
 ∃f fd ps,ku P w K mg base kZ i.lv f fd ps sp∧mg i.nm=some (.ref f)∧PySem.W.keepIn K (.ref f)=true∧Binds K fd ps []∧∀n,i.df=some n→∃t,Binds K fd ps [.int n t]
noncomputable def jT(P:Program)(w:World)(K:PySem.W.Frag)(mg:Str→Option Value)(base:Heap)(i:Fi):FT→Prop
 |.p F=>i.io=none∧Dh P w K mg base i (k7 K i.ar F)
 |.oo F=>i.io=some []∧Dh P w K mg base i (JN K i.ar F)
 |.io l F=>(i.io=some l∧l≠[])∧Dh P w K mg base i (qL K i.ar l F)
def GV(K:PySem.W.Frag)(mg:Str→Option Value)(va:List V)(gs:List (Str×Gv)):Prop:=∀(i:Nat) g,gs[i]?=some g→∃x u,va[i]?=some x∧mg g.1=some u∧RelV x u∧JT K (tC x) (jC g.2.d)
structure CE (c:Cf)(lv:Nat)(K:PySem.W.Frag)(t:List FT)(va:List V)(sc:Scope)(N:List Str)(Z:Cx):Prop where
 k:Z.K=K
 sc:Z.env.scope=sc
 n:Z.N=N
 calm:Z.calm=true
 rm:dw lv Z.A
 bl:∀b,b∈c.bs→Z.mg (Str.ofString b)=none
 gv:GV K Z.mg va c.gs
 fs:∀(i:Nat) fi,c.fs[i]?=some fi→∃F,t[i]?=some F∧jT Z.prog Z.w Z.K Z.mg Z.base fi F
section
variable {c:Cf}{lv:Nat}{K:PySem.W.Frag}{t:List FT}{va:List V}{sc:Scope}{N:List Str}{Z:Cx}
theorem CE.bU(E:CE c lv K t va sc N Z){N':List Str}{au:Scope}{C:Addr}{s₂:Shared}{H₂:Hp}{fp:List Addr}{pn:List (Addr×Obj)}:CE c lv K t va (rl sc au) N' (Z.bU N' au C s₂ H₂ fp pn) :=
 ⟨E.k,by rw[←E.sc];rfl,rfl,E.calm,E.rm,E.bl,E.gv,E.fs⟩
theorem CE.gl(E:CE c lv K t va sc N Z){x:Str}(h:gl sc x=true):Gl Z x:=by
 have:=VG h
 rw[←E.sc]at this
 exact this
theorem CE.mg(E:CE c lv K t va sc N Z){b:String}(h:c.bs.contains b=true):Z.mg (Str.ofString b)=none:=E.bl b (by simpa using h)
theorem gX:∀{es:List Expr}{env:Env},es.all du=true→∀pos:Pos,((backTo pos (starEach es env)).any fun x=>x.1)=false
 |[],_,_,_=>rfl
 |e::es,env,h,pos=>by
  rw[jE,gx]at h
  rw[cG h.1]
  show(false||(backTo pos (starEach es env)).any fun x=>x.1)=false
  rw[gX h.2,Bool.or_false]
theorem UL{n:String}(h:tys.contains n=true):bootBuiltins (Str.ofString n)=some (.type n)∧Str.ofString n ≠ "__name__" ∧ (Str.ofString n==("__debug__" : Str))=false:=by
 have h:n∈tys:=by simpa using h
 simp only[tys,List.mem_cons,List.not_mem_nil,or_false]at h
 rcases h with rfl|rfl|rfl|rfl|rfl|rfl
 ·exact⟨PyProof.Rows.Boot.«bool»,by decide,by decide⟩
 ·exact⟨PyProof.Rows.Boot.«int»,by decide,by decide⟩
 ·exact⟨PyProof.Rows.Boot.«str»,by decide,by decide⟩
 ·exact⟨PyProof.Rows.Boot.«tuple»,by decide,by decide⟩
 ·exact⟨PyProof.Rows.Boot.«list»,by decide,by decide⟩
 ·exact⟨PyProof.Rows.Boot.«dict»,by decide,by decide⟩
theorem Fb.ok:∀f:Fb,∃r,(∀{sc:Scope}{N:List Str} (Z:Cx),CE c lv K t va sc N Z→∀{p pos:Pos}{e:Expr}{es:List Expr}{ta:TA},C.gl sc (Str.ofString f.nm)=true→c.bs.contains f.nm=true→du e=true→es.all du=true→PA Z (e::es) ta→PE Z (.Call (.Name (Str.ofString f.nm) p) (e::es) [] pos) (yp r ta))∧jO K r f.g
 |.int=>⟨_,fun _ E _ _ _ _ _ hg hb h1 h2 ha=>@zx _ _ _ _ _ _ _ _ _ Nv (E.gl hg) (E.mg hb) PyProof.Rows.Boot.«int» ha (by decide) (by decide) (cG h1) (gX h2 _),QM⟩
 |.dict=>⟨_,fun _ E _ _ _ _ _ hg hb h1 h2 ha=>@zx _ _ _ _ _ _ _ _ _ MK (E.gl hg) (E.mg hb) PyProof.Rows.Boot.«dict» ha (by decide) (by decide) (cG h1) (gX h2 _),PN⟩
 |.list=>⟨_,fun _ E _ _ _ _ _ hg hb h1 h2 ha=>@zx _ _ _ _ _ _ _ _ _ (Mu E.k) (E.gl hg) (E.mg hb) PyProof.Rows.Boot.«list» ha (by decide) (by decide) (cG h1) (gX h2 _),O9⟩
 |.len=>⟨_,fun _ E _ _ _ _ _ hg hb h1 h2 ha=>@sf _ _ _ _ _ _ _ _ _ (NK E.k) (E.gl hg) (E.mg hb) PyProof.Rows.Boot.«len» ha (by decide) (by decide) (cG h1) (gX h2 _),QK⟩
 |.abs=>⟨_,fun _ E _ _ _ _ _ hg hb h1 h2 ha=>@sf _ _ _ _ _ _ _ _ _ OO (E.gl hg) (E.mg hb) PyProof.Rows.Boot.«abs» ha (by decide) (by decide) (cG h1) (gX h2 _),QL⟩
 |.iX=>⟨_,fun _ E _ _ _ _ _ hg hb h1 h2 ha=>@sf _ _ _ _ _ _ _ _ _ (NV E.k) (E.gl hg) (E.mg hb) PyProof.Rows.Boot.«isinstance» ha (by decide) (by decide) (cG h1) (gX h2 _),Rf⟩
 |.all=>⟨_,fun _ E _ _ _ _ _ hg hb h1 h2 ha=>@sf _ _ _ _ _ _ _ _ _ (M6 E.k E.calm) (E.gl hg) (E.mg hb) PyProof.Rows.Boot.«all» ha (by decide) (by decide) (cG h1) (gX h2 _),Ro⟩
 |.any=>⟨_,fun _ E _ _ _ _ _ hg hb h1 h2 ha=>@sf _ _ _ _ _ _ _ _ _ (M9 E.k E.calm) (E.gl hg) (E.mg hb) PyProof.Rows.Boot.«any» ha (by decide) (by decide) (cG h1) (gX h2 _),RG⟩
theorem Hw{a:Expr}{env:Env}{bX:Pos}(h:du a=true):(((List.all (backTo bX (starEach [a] env)) fun x=>!x.1)&&List.all (backToKw bX (keywordEach [] env)) fun x=>Option.isSome x.1)&&decide ((List.length [a]+List.length ([]:List Keyword)+if List.isEmpty ([]:List Keyword)=true then 0 else 1)<30))=true:=by
 rw[cG h];rfl
theorem Hx{env:Env}{cp:Pos}:((backTo cp (starEach [] env)).any fun x=>x.1)=false:=rfl
theorem Ms.ok:∀m:Ms,∃r,(∀Z:Cx,Z.K=K→∀{ap cp:Pos}{e a:Expr}{te:TE}{ta:TA},lj e=true→(ap.endLine==cp.line)=true→du a=true→PE Z e te→PA Z [a] ta→PE Z (.Call (.Attribute e (Str.ofString m.nm) ap) [a] [] cp) (pw K "str" r te ta))∧(∀Z:Cx,Z.K=K→∀{ap cp:Pos}{e:Expr}{te:TE},lj e=true→(ap.endLine==cp.line)=true→PE Z e te→PE Z (.Call (.Attribute e (Str.ofString m.nm) ap) [] [] cp) (Js K "str" r te))∧CH K "str" r m.g
 |.join=>⟨_,fun _ k _ _ _ _ _ _ h0 hl h1 he ha=>k▸@H0 _ _ _ _ _ _ _ _ _ _ _ _ PySem.F.plainAttrs_str PySem.F.slot_str_join PySem.F.type_str_join (Ff rfl) he ha (qj h0) (Hw h1) hl (cG h1) Hx,fun _ k _ _ _ _ h0 hl he=>k▸@Tc _ _ _ _ _ _ _ _ _ PySem.F.plainAttrs_str PySem.F.slot_str_join PySem.F.type_str_join (Ff rfl) he (qj h0) hl,PD⟩
theorem xN:∀{l:A}{sc:Scope}{N:List Str}{es:List Expr},kA c lv l sc N es=true→∀(e:Ev) (ak:List (M×D)),eA t l e=some ak→ak.length=es.length
 |.n,_,_,es,h=>by cases fC.mp h;exact Q0
 |.c a l,sc,N,es,h=>by
  have hh:=ax h;clear h;obtain⟨⟨e,r⟩,q,h⟩:=hh
  cases iq q
  have h:(du e&&kX c lv a sc N e&&kA c lv l sc N r)=true:=h
  rw[gx]at h
  exact Pw (xN h.2)
end
section
variable {c:Cf}{lv:Nat}{K:PySem.W.Frag}{t:List FT}{va:List V}
theorem cR{a b:Bool}(h:(a&&b)=true):a=true∧b=true:=by simpa using h
theorem fS{a b d:Bool}(h:(a&&b&&d)=true):a=true∧b=true∧d=true:=by simpa[and_assoc]using h
theorem fT{a b d e:Bool}(h:(a&&b&&d&&e)=true):a=true∧b=true∧d=true∧e=true:=by simpa[and_assoc]using h
theorem mB{a b d e f:Bool}(h:(a&&b&&d&&e&&f)=true):a=true∧b=true∧d=true∧e=true∧f=true:=by simpa[and_assoc]using h
theorem yQ{a b d e f g:Bool}(h:(a&&b&&d&&e&&f&&g)=true):a=true∧b=true∧d=true∧e=true∧f=true∧g=true:=by simpa[and_assoc]using h
theorem Di{a b d e f g i j:Bool}(h:(a&&b&&d&&e&&f&&g&&i&&j)=true):a=true∧b=true∧d=true∧e=true∧f=true∧g=true∧i=true∧j=true:=by simpa[and_assoc]using h
theorem nb{a:Bool}(h:(!a)=true):a=false:=by simpa using h
theorem IL{Z:Cx}{op:BoolOp}{vs:List Expr}{pos:Pos}{tt:TT}(h:PT Z (.BoolOp op vs pos) tt):PW Z (.BoolOp op vs pos) tt:=fun _=>h
theorem all1{a:Expr}{l:List Expr}(h:(a::l).all du=true):du a=true∧l.all du=true:=by
 rw[jE,gx]at h;exact h
theorem vW{α:Type}{l:List α}(h:(!l.isEmpty)=true):∃a r,l=a::r:=by
 cases l with
 |nil=>cases h
 |cons a r=>exact⟨a,r,rfl⟩
theorem JQ{α:Type}{l:List α}(h:l.length=1):∃a,l=[a]:=List.length_eq_one_iff.mp h
mutual
theorem sX:∀(x:X) {sc:Scope}{N:List Str}{e:Expr},kX c lv x sc N e=true→∃te,(∀Z,CE c lv K t va sc N Z→PE Z e te)∧JT K te (eX t x)
 |.v i,sc,N,e,h=>by
  have hh:=ax h;clear h;obtain⟨x,q,h⟩:=hh
  obtain⟨p,rfl⟩:=qk q
  obtain⟨h1,h2,h3,h4⟩:=fT h
  have h1:=bu h1
  have h2:=Hs h2
  exact⟨_,fun Z E=>@z8 _ _ _ _ (E.n▸h1) (E.sc▸h2) (nb h3) (nb h4),Tr⟩
 |.ki i,sc,N,e,h=>by
  have hh:=ax h;clear h;obtain⟨k,q,h⟩:=hh
  obtain⟨j,p,rfl⟩:=w9 q
  have hh:=ax h;clear h;obtain⟨y,q,h⟩:=hh
  cases VH q
  cases bu h
  exact⟨_,fun Z E=>Sl,qE rfl⟩
 |.ks i,sc,N,e,h=>by
  have hh:=ax h;clear h;obtain⟨k,q,h⟩:=hh
  obtain⟨j,p,rfl⟩:=w9 q
  have hh:=ax h;clear h;obtain⟨y,q,h⟩:=hh
  cases VJ q
  cases bu h
  exact⟨_,fun Z E=>Sq,qE rfl⟩
 |.kb i,sc,N,e,h=>by
  have hh:=ax h;clear h;obtain⟨k,q,h⟩:=hh
  obtain⟨j,p,rfl⟩:=w9 q
  have hh:=ax h;clear h;obtain⟨y,q,h⟩:=hh
  cases VL q
  cases bu h
  exact⟨_,fun Z E=>U5,qE rfl⟩
 |.kn,sc,N,e,h=>by
  have hh:=ax h;clear h;obtain⟨k,q,h⟩:=hh
  obtain⟨j,p,rfl⟩:=w9 q
  cases VM h
  exact⟨_,fun Z E=>Sn,qE rfl⟩
 |.ty n,sc,N,e,h=>by
  have hh:=ax h;clear h;obtain⟨x,q,h⟩:=hh
  obtain⟨p,rfl⟩:=qk q
  obtain⟨h1,h2,h3,h4⟩:=fT h
  cases bu h1
  obtain⟨q1,q2,q3⟩:=UL h4
  exact⟨_,fun Z E=>@Qg _ _ (.ty n) _ _ (E.gl h2) (E.mg h3) q1 rfl q2 q3,qE rfl⟩
 |.bo o a b,sc,N,e,h=>by
  have hh:=ax h;clear h;obtain⟨⟨l,op,r⟩,q,h⟩:=hh
  obtain⟨p,rfl⟩:=UD q
  obtain⟨h1,h2,h3⟩:=fS h
  cases bu h1
  obtain⟨ta,pa,ja⟩:=sX a h2
  obtain⟨tb,pb,jb⟩:=sX b h3
  obtain⟨r,o1,o2⟩:=o.ok (K:=K)
  exact⟨_,fun Z E=>U9 (o1 Z E.k) (pa Z E) (pb Z E),wL o2 ja jb⟩
 |.co o a b,sc,N,e,h=>by
  have hh:=ax h;clear h;obtain⟨⟨l,op,r⟩,q,h⟩:=hh
  obtain⟨p,rfl⟩:=wx q
  obtain⟨h1,h0,h2,h3⟩:=fT h
  cases bu h1
  obtain⟨ta,pa,ja⟩:=sX a h2
  obtain⟨tb,pb,jb⟩:=sX b h3
  obtain⟨r,o1,o2⟩:=o.ok (K:=K)
  exact⟨_,fun Z E=>Qo (o1 Z E.k E.rm.units) (pa Z E) (pb Z E) (p6 h0),wL o2 ja jb⟩
 |.uo o a,sc,N,e,h=>by
  have hh:=ax h;clear h;obtain⟨⟨op,r⟩,q,h⟩:=hh
  obtain⟨p,rfl⟩:=Am q
  obtain⟨h1,h2⟩:=cR h
  cases bu h1
  obtain⟨ta,pa,ja⟩:=sX a h2
  obtain⟨r,o1,o2⟩:=o.ok (K:=K)
  exact⟨_,fun Z E=>Va (o1 Z) (pa Z E),Vl o2 ja⟩
 |.an a b,sc,N,e,h=>by
  have hh:=ax h;clear h;obtain⟨⟨x,y⟩,q,h⟩:=hh
  obtain⟨m,rest,pos,rfl,w⟩:=vV q
  obtain⟨h1,h2⟩:=cR h
  obtain⟨ta,pa,ja⟩:=sX a h1
  obtain⟨tb,pb,jb⟩:=sX b h2
  refine⟨_,fun Z E=>@Sw _ _ _ _ tb _ _ (pa Z E) ?_,TB ja jb⟩
  rcases w with⟨rfl,rfl⟩|rfl
  ·exact @GK _ _ _ _ _ (pb Z E)
  ·exact pb Z E
 |.or a b,sc,N,e,h=>by
  have hh:=ax h;clear h;obtain⟨⟨x,y⟩,q,h⟩:=hh
  obtain⟨m,rest,pos,rfl,w⟩:=vV q
  obtain⟨h1,h2⟩:=cR h
  obtain⟨ta,pa,ja⟩:=sX a h1
  obtain⟨tb,pb,jb⟩:=sX b h2
  refine⟨_,fun Z E=>@U7 _ _ _ _ tb _ _ (pa Z E) ?_,Vr ja jb⟩
  rcases w with⟨rfl,rfl⟩|rfl
  ·exact @GK _ _ _ _ _ (pb Z E)
  ·exact pb Z E
 |.nt a,sc,N,e,h=>by
  have hh:=ax h;clear h;obtain⟨⟨op,r⟩,q,h⟩:=hh
  obtain⟨p,rfl⟩:=Am q
  obtain⟨h1,h2⟩:=cR h
  cases bu h1
  obtain⟨ta,pa,ja⟩:=sX a h2
  exact⟨_,fun Z E=>Sx (pa Z E),TC ja⟩
 |.ie t' a b,sc,N,e,h=>by
  have hh:=ax h;clear h;obtain⟨⟨x,l,r⟩,q,h⟩:=hh
  obtain⟨p,rfl⟩:=UH q
  obtain⟨h1,h2,h3⟩:=fS h
  obtain⟨tq,pq,jq⟩:=sT t' h1
  obtain⟨ta,pa,ja⟩:=sX a h2
  obtain⟨tb,pb,jb⟩:=sX b h3
  exact⟨_,fun Z E=>Oz (pq Z E) (pa Z E) (pb Z E),TH jq ja jb⟩
 |.tu l,sc,N,e,h=>by
  have hh:=ax h;clear h;obtain⟨es,q,h⟩:=hh
  obtain⟨k,p,rfl⟩:=wz q
  obtain⟨ta,pa,ja⟩:=sA l h
  exact⟨_,fun Z E=>GO (pa Z E),TK ja⟩
 |.li l,sc,N,e,h=>by
  have hh:=ax h;clear h;obtain⟨es,q,h⟩:=hh
  obtain⟨p,rfl⟩:=UI q
  obtain⟨ta,pa,ja⟩:=sA l h
  exact⟨_,fun Z E=>Aa (pa Z E),TJ ja⟩
 |.dK,sc,N,e,h=>by
  have hh:=ax h;clear h;obtain⟨⟨ks,vs⟩,q,h⟩:=hh
  obtain⟨p,rfl⟩:=Hu q
  obtain⟨h1,h2⟩:=cR h
  cases fC.mp h1
  cases fC.mp h2
  exact⟨_,fun _ _=>OV,PH⟩
 |.ix a b,sc,N,e,h=>by
  have hh:=ax h;clear h;obtain⟨⟨l,r⟩,q,h⟩:=hh
  obtain⟨p,rfl⟩:=j6 q
  obtain⟨h1,h2,h3⟩:=fS h
  obtain⟨ta,pa,ja⟩:=sX a h2
  obtain⟨tb,pb,jb⟩:=sX b h3
  exact⟨_,fun Z E=>wI (vP E.k) (pa Z E) (pb Z E) (w6 h1),wL Vq ja jb⟩
 |.dg a b,sc,N,e,h=>by
  have hh:=ax h;clear h;obtain⟨⟨l,r⟩,q,h⟩:=hh
  obtain⟨p,rfl⟩:=j6 q
  obtain⟨h1,h2,h3⟩:=fS h
  obtain⟨ta,pa,ja⟩:=sX a h2
  obtain⟨tb,pb,jb⟩:=sX b h3
  exact⟨_,fun Z E=>Qy (lH E.rm) (pa Z E) (pb Z E) (RQ h1),Rt ja jb⟩
 |.g2 d k x,sc,N,e,h=>by
  have hh:=ax h;clear h;obtain⟨⟨o,as⟩,q,h⟩:=hh
  obtain⟨ap,cp,rfl,h2,h3,h4⟩:=oA q
  have hh:=ax h;clear h;obtain⟨a,q1,h⟩:=hh
  cases AJ q1
  obtain⟨h4,yR⟩:=all1 h4
  have yR:=(all1 yR).1
  obtain⟨h5,h6,h7⟩:=fS h
  obtain⟨td,pd,jd⟩:=sX d h5
  obtain⟨tk,pk,jk⟩:=sX k h6
  obtain⟨tx,px,jx⟩:=sX x h7
  exact⟨_,fun Z E=>OX (lH E.rm) (pd Z E) (pk Z E) (px Z E) ⟨qj h2,by rw[cG h4,cG yR];rfl,h3,by rw[cG h4,cG yR];rfl⟩,PL jd jk jx⟩
 |.sl a lo hi,sc,N,e,h=>by
  have hh:=ax h;clear h;obtain⟨⟨l,r⟩,q,h⟩:=hh
  obtain⟨p,rfl⟩:=j6 q
  have hh:=ax h;clear h;obtain⟨⟨Zw,Zx⟩,q,h⟩:=hh
  obtain⟨p',rfl⟩:=UJ q
  obtain⟨h1,h2,h3⟩:=fS h
  obtain⟨ta,pa,ja⟩:=sX a h1
  obtain⟨tl,pl,jl⟩:=sP lo h2
  obtain⟨tu,pu,ju⟩:=sP hi h3
  exact⟨_,fun Z E=>OU (WQ E.k) (pa Z E) (pl Z E) (pu Z E),Vt Vw ja jl ju⟩
 |.ms m o l,sc,N,e,h=>by
  have hh:=ax h;clear h;obtain⟨⟨o',as⟩,q,h⟩:=hh
  obtain⟨ap,cp,rfl,h2,h3,h4⟩:=oA q
  have hh:=ax h;clear h;obtain⟨a,q1,h⟩:=hh
  cases iB q1
  obtain⟨h5,h6⟩:=cR h
  obtain⟨td,pd,jd⟩:=sX o h5
  obtain⟨tk,pk,jk⟩:=sA l h6
  obtain⟨r,q1,_,q2⟩:=Ms.ok (K:=K) m
  exact⟨_,fun Z E=>q1 Z E.k h2 h3 (all1 h4).1 (pd Z E) (pk Z E),T6 q2 jd jk⟩
 |.fb f l,sc,N,e,h=>by
  have hh:=ax h;clear h;obtain⟨⟨x,as⟩,q,h⟩:=hh
  obtain⟨p,cp,rfl,h4⟩:=oB q
  obtain⟨h1,h2,h3,h0,h6⟩:=mB h
  cases bu h1
  obtain⟨a,r,rfl⟩:=vW h0
  obtain⟨h4,h5⟩:=all1 h4
  obtain⟨ta,pa,ja⟩:=sA l h6
  obtain⟨r,q1,q2⟩:=Fb.ok (c:=c) (lv:=lv) (t:=t) (va:=va) (K:=K) f
  exact⟨_,fun Z E=>q1 Z E h2 h3 h4 h5 (pa Z E),Vs q2 ja⟩
 |.ca f l,sc,N,e,h=>by
  have hh:=ax h;clear h;obtain⟨⟨x,as⟩,q,h⟩:=hh
  obtain⟨p,cp,rfl,vn⟩:=oB q
  have hh:=ax h;clear h;obtain⟨i,hf,h⟩:=hh
  obtain⟨h1,h2,h3,h4,h5,gS,h0,h8⟩:=Di h
  obtain⟨a,r,rfl⟩:=vW h0
  obtain⟨h6,h7⟩:=all1 vn
  have h1:=bu h1
  obtain⟨ta,pa,ja⟩:=sA l h8
  have hl:=xN (t:=t) h8
  rw[show(a::r).length=i.ar from bu h5]at hl
  refine⟨j7 (k7 K i.ar (FT.f t[f]?)) [] E0 ta,fun Z E=>?_,QV ja hl⟩
  obtain⟨F,hF,q⟩:=E.fs f i hf
  cases F with
  |io l F=>rw[jT,bu gS]at q;cases q.1.1
  |oo F=>rw[jT,bu gS]at q;cases q.1
  |p F =>
   obtain⟨_,a,fd,ps,k1,k2,k3,k4⟩:=q
   rw[←h1]at k2
   rw[hF,←E.k]
   exact @zL _ _ _ _ _ _ _ _ _ _ _ _ _ _ _ _ k1 (E.rm.mono (bu h4)) (E.gl h2) k2 k3 k4.1 .nil Az (pa Z E) (nb h3) (cG h6) (gX h7 _)
 |.cp i ix t' d,sc,N,e,h=>by
  have hh:=ax h;clear h;obtain⟨⟨el,x,px,it,ifs,au,ep⟩,q,h⟩:=hh
  cases zX q
  obtain⟨h1,h2,h3,h4,h5⟩:=mB h
  have h1:=Al h1
  obtain⟨ti,pi,ji⟩:=sI i h3
  obtain⟨te,pe,je⟩:=sX d h5
  have h4:(ifs.isEmpty=true∧De t'=true)∨(on (l1 ifs) fun y=>kT c lv t' (rl sc au) (ns N x ix) y)=true:=by simpa using h4
  rcases h4 with⟨w1,w2⟩|h4
  ·cases fC.mp w1
   cases t'<;>first|exact absurd w2 aZ|skip
   exact⟨_,fun Z E=>@vO _ (ns N x ix) _ _ ix _ _ _ _ _ _ _ _ (by rw[E.n,E.sc];exact h1) E.calm (pi Z (.Name x px) E (fun z=>absurd z aZ)) (fun C s₂ H₂ fp pn=>vN) (fun C s₂ H₂ fp pn=>pe _ E.bU) (jY h2),vR ji F7 je⟩
  ·have hh:=ax h4;clear h4;obtain⟨y,q,h4⟩:=hh
   cases iB q
   obtain⟨tq,pq,jq⟩:=sT t' h4
   exact⟨_,fun Z E=>@vO _ (ns N x ix) _ _ ix _ _ _ _ _ _ _ _ (by rw[E.n,E.sc];exact h1) E.calm (pi Z (.Name x px) E (fun z=>absurd z aZ)) (fun C s₂ H₂ fp pn=>FZ (pq _ E.bU)) (fun C s₂ H₂ fp pn=>pe _ E.bU) (jY h2),vR ji jq je⟩
 |.dD l,sc,N,e,h=>by
  have hh:=ax h;clear h;obtain⟨⟨ks,vs⟩,q,h⟩:=hh
  obtain⟨p,rfl⟩:=Hu q
  obtain⟨h1,h2,h3⟩:=fS h
  obtain⟨ts,pp,jp⟩:=Ls l h3
  exact⟨_,fun Z E=>(let ⟨a,b,c⟩:=pp Z p E;QC a b c (fun z=>by subst z;exact absurd h2 aZ) (bu h1)),RP jp⟩
 |.lv a,sc,N,e,h=>by
  have hh:=ax h;clear h;obtain⟨⟨x,as⟩,q,h⟩:=hh
  obtain⟨p,cp,rfl,h4⟩:=oB q
  have hh:=ax h;clear h;obtain⟨r,q1,h⟩:=hh
  cases iB q1
  have hh:=ax h;clear h;obtain⟨⟨o,bs⟩,q,h⟩:=hh
  obtain⟨ap,Zy,rfl,e2,e3,_⟩:=oA q
  obtain⟨g1,g2,g3,g4,g5⟩:=mB h
  cases bu g1
  cases fC.mp g4
  obtain⟨ta,pa,ja⟩:=sX a g5
  exact⟨_,fun Z E=>VD E.calm (E.gl g2) (E.mg g3) (pa Z E) (qj e2) e3,VF ja⟩
 |.cd f l n,sc,N,e,h=>by
  have hh:=ax h;clear h;obtain⟨⟨x,as⟩,q,h⟩:=hh
  obtain⟨p,cp,rfl,vn⟩:=oB q
  have hh:=ax h;clear h;obtain⟨i,hf,h⟩:=hh
  obtain⟨h1,h2,h3,h4,h5,gS,h0,h8⟩:=Di h
  obtain⟨a,r,rfl⟩:=vW h0
  obtain⟨h6,h7⟩:=all1 vn
  have h1:=bu h1
  have gS:=bu gS
  obtain⟨ta,pa,ja⟩:=sA l h8
  have hl:=xN (t:=t) h8
  have h5:(a::r).length+1=i.ar:=bu h5
  refine⟨j7 (k7 K i.ar (FT.f t[f]?)) [.int n] E0 ta,fun Z E=>?_,PV ja fun e ak z=>by rw[hl e ak z];exact h5⟩
  obtain⟨F,hF,q⟩:=E.fs f i hf
  cases F with
  |io l F=>rw[jT,gS.1]at q;cases q.1.1
  |oo F=>rw[jT,gS.1]at q;cases q.1
  |p F =>
   obtain⟨_,a,fd,ps,k1,k2,k3,_,k4⟩:=q
   obtain⟨tk,k4⟩:=k4 n gS.2
   rw[←h1]at k2
   rw[hF,←E.k]
   exact @zL _ _ _ _ _ _ _ _ _ _ _ _ _ _ _ _ k1 (E.rm.mono (bu h4)) (E.gl h2) k2 k3 k4 (.cons ⟨tk,rfl⟩ .nil) Az (pa Z E) (nb h3) (cG h6) (gX h7 _)
theorem Ls:∀(l:Pp) {sc:Scope}{N:List Str}{ks:List (Option Expr)}{vs:List Expr},Dg c lv l sc N ks vs=true→∃ts,(∀Z pos,CE c lv K t va sc N Z→uJ Z pos ks vs ts∧ks.all (·.isSome)=true∧ks.length=vs.length)∧rK K ts (C4 t l)
 |.n,_,_,ks,vs,h=>by
  obtain⟨h1,h2⟩:=cR h
  cases fC.mp h1
  cases fC.mp h2
  exact⟨_,fun _ _ _=>⟨QB,rfl,rfl⟩,.nil⟩
 |.c a b l,sc,N,ks,vs,h=>by
  have hh:=ax h;clear h;obtain⟨⟨k,ks⟩,q,h⟩:=hh
  cases iq q
  have hh:=ax h;clear h;obtain⟨k1,q,h⟩:=hh
  have q:k=some k1:=q
  subst q
  have hh:=ax h;clear h;obtain⟨⟨v,vs⟩,q,h⟩:=hh
  cases iq q
  obtain⟨h1,h2,h3⟩:=fS h
  obtain⟨ta,pa,ja⟩:=sX a h1
  obtain⟨tb,pb,jb⟩:=sX b h2
  obtain⟨tl,pl,jl⟩:=Ls l h3
  exact⟨_,fun Z pos E=>(let ⟨x,y,z⟩:=pl Z pos E;⟨OW (pa Z E) (pb Z E) x,y,by rw[cz,cz,z]⟩),.cons ja jb jl⟩
theorem sA:∀(l:A) {sc:Scope}{N:List Str}{es:List Expr},kA c lv l sc N es=true→∃ta,(∀Z,CE c lv K t va sc N Z→PA Z es ta)∧gQ K ta (eA t l)
 |.n,_,_,es,h=>by
  cases fC.mp h
  exact⟨_,fun _ _=>sH,QJ⟩
 |.c a l,sc,N,es,h=>by
  have hh:=ax h;clear h;obtain⟨⟨e,r⟩,q,h⟩:=hh
  cases iq q
  obtain⟨h0,h1,h2⟩:=fS h
  obtain⟨ta,pa,ja⟩:=sX a h1
  obtain⟨tl,pl,jl⟩:=sA l h2
  exact⟨_,fun Z E=>@vM _ _ _ _ _ (pa Z E) (pl Z E) (cG h0),O8 ja jl⟩
theorem sT:∀(q:T) {sc:Scope}{N:List Str}{e:Expr},kT c lv q sc N e=true→∃tt,(∀Z,CE c lv K t va sc N Z→PT Z e tt)∧dX K tt (eT t q)
 |.b x,sc,N,e,h=>by
  obtain⟨h1,h2⟩:=cR h
  obtain⟨ta,pa,ja⟩:=sX x h2
  exact⟨_,fun Z E=>@NP _ K _ _ E.k (pa Z E) (UC h1),NQ ja⟩
 |.c o a b,sc,N,e,h=>by
  have hh:=ax h;clear h;obtain⟨⟨l,op,r⟩,q,h⟩:=hh
  obtain⟨p,rfl⟩:=wx q
  obtain⟨h1,h0,h2,h3⟩:=fT h
  cases bu h1
  obtain⟨ta,pa,ja⟩:=sX a h2
  obtain⟨tb,pb,jb⟩:=sX b h3
  obtain⟨r,o1,o2⟩:=o.ok (K:=K)
  exact⟨_,fun Z E=>Qp (o1 Z E.k E.rm.units) (pa Z E) (pb Z E) (p6 h0),E9 (wL o2 ja jb)⟩
 |.d n a b,sc,N,e,h=>by
  have hh:=ax h;clear h;obtain⟨⟨l,op,r⟩,q,h⟩:=hh
  obtain⟨p,rfl⟩:=wx q
  obtain⟨h1,h0,h2,h3⟩:=fT h
  cases bu h1
  obtain⟨ta,pa,ja⟩:=sX a h2
  obtain⟨tb,pb,jb⟩:=sX b h3
  cases n with
  |false=>exact⟨_,fun Z E=>@v9 _ _ _ _ _ _ (GR (lH E.rm) (pa Z E) (pb Z E)) (p6 h0),tD (Ur ja jb)⟩
  |true=>exact⟨_,fun Z E=>@v9 _ _ _ _ _ _ (ED (lH E.rm) (pa Z E) (pb Z E)) (p6 h0),tD (N1 ja jb)⟩
 |.t n a b,sc,N,e,h=>by
  have hh:=ax h;clear h;obtain⟨⟨l,op,r⟩,q,h⟩:=hh
  obtain⟨p,rfl⟩:=wx q
  obtain⟨h1,h0,h2,h3⟩:=fT h
  cases bu h1
  obtain⟨ta,pa,ja⟩:=sX a h2
  obtain⟨tb,pb,jb⟩:=sX b h3
  cases n with
  |false=>exact⟨_,fun Z E=>@v9 _ _ _ _ _ _ (GR (lH E.rm) (pa Z E) (pb Z E)) (p6 h0),tD (Uz ja jb)⟩
  |true=>exact⟨_,fun Z E=>@v9 _ _ _ _ _ _ (ED (lH E.rm) (pa Z E) (pb Z E)) (p6 h0),tD (N4 ja jb)⟩
 |.h o p a b d,sc,N,e,h=>by
  have hh:=ax h;clear h;obtain⟨⟨l,op,op',m,r⟩,q,h⟩:=hh
  obtain⟨p',rfl⟩:=UE q
  obtain⟨h1,h2,h3,h4,h5,h6⟩:=yQ h
  cases bu h1
  cases bu h2
  obtain⟨ta,pa,ja⟩:=sX a h4
  obtain⟨tb,pb,jb⟩:=sX b h5
  obtain⟨td,pd,jd⟩:=sX d h6
  obtain⟨r,o1,o2⟩:=o.ok (K:=K)
  obtain⟨r',Yi,Dj⟩:=p.ok (K:=K)
  exact⟨_,fun Z E=>@OJ _ _ _ _ _ _ _ _ _ _ _ _ (o1 Z E.k E.rm.units) (Yi Z E.k E.rm.units) (pa Z E) (pb Z E) (pd Z E) (nb h3),E9 (Pr o2 Dj ja jb jd)⟩
 |.an a b,sc,N,e,h=>by
  have hh:=ax h;clear h;obtain⟨⟨x,y⟩,q,h⟩:=hh
  obtain⟨m,rest,pos,rfl,w⟩:=vV q
  obtain⟨h1,h2⟩:=cR h
  obtain⟨ta,pa,ja⟩:=sT a h1
  obtain⟨tb,pb,jb⟩:=sT b h2
  refine⟨_,fun Z E=>@PW.pt _ _ _ (@Ss _ _ _ _ _ tb _ (pa Z E) ?_),QH ja jb⟩
  rcases w with⟨rfl,rfl⟩|rfl
  ·exact @Qh _ _ _ _ (pb Z E)
  ·exact IL (pb Z E)
 |.or a b,sc,N,e,h=>by
  have hh:=ax h;clear h;obtain⟨⟨x,y⟩,q,h⟩:=hh
  obtain⟨m,rest,pos,rfl,w⟩:=vV q
  obtain⟨h1,h2⟩:=cR h
  obtain⟨ta,pa,ja⟩:=sT a h1
  obtain⟨tb,pb,jb⟩:=sT b h2
  refine⟨_,fun Z E=>@PW.pt _ _ _ (@U6 _ _ _ _ _ tb _ (pa Z E) ?_),TF ja jb⟩
  rcases w with⟨rfl,rfl⟩|rfl
  ·exact @Sr _ _ _ _ (pb Z E)
  ·exact IL (pb Z E)
 |.nt a,sc,N,e,h=>by
  have hh:=ax h;clear h;obtain⟨⟨op,r⟩,q,h⟩:=hh
  obtain⟨p,rfl⟩:=Am q
  obtain⟨h1,h2⟩:=cR h
  cases bu h1
  obtain⟨ta,pa,ja⟩:=sT a h2
  exact⟨_,fun Z E=>Sv (pa Z E),QI ja⟩
 |.y,sc,N,e,h=>absurd h aZ
theorem sP:∀(l:P) {sc:Scope}{N:List Str}{e:Option Expr},kP c lv l sc N e=true→∃ta,(∀Z,CE c lv K t va sc N Z→PO Z e ta)∧uR K ta (eP t l)
 |.n,_,_,o,h=>by
  cases o with
  |some _=>cases h
  |none=>exact⟨_,fun _ _=>Qr,Pa⟩
 |.s x,sc,N,o,h=>by
  have hh:=ax h;clear h;obtain⟨e,rfl,h⟩:=hh
  obtain⟨ta,pa,ja⟩:=sX x h
  exact⟨_,fun Z E=>Qs (pa Z E),Pb ja⟩
theorem sI:∀(i:I) {tg:Bool}{sc:Scope}{N:List Str}{e:Expr},kI c lv i tg sc N e=true→∃ti,(∀Z g,CE c lv K t va sc N Z→(tg=true→w5 g=true)→PI Z g e ti)∧JI K ti (eI t i)
 |.r1 l,tg,sc,N,e,h=>by
  have hh:=ax h;clear h;obtain⟨⟨x,as⟩,q,h⟩:=hh
  obtain⟨p,cp,rfl,h4⟩:=oB q
  obtain⟨h1,h2,h3,h0,h5⟩:=mB h
  cases bu h1
  obtain⟨a,rfl⟩:=JQ (bu h0)
  obtain⟨ta,pa,ja⟩:=sA l h5
  exact⟨_,fun Z g E _=>@Nt _ _ _ _ _ _ (E.gl h2) (E.mg h3) (pa Z E) (cG (all1 h4).1),QR ja⟩
 |.en l,tg,sc,N,e,h=>by
  have hh:=ax h;clear h;obtain⟨⟨x,as⟩,q,h⟩:=hh
  obtain⟨p,cp,rfl,h4⟩:=oB q
  obtain⟨h0,h1,h2,h3,h6,h5⟩:=yQ h
  cases bu h1
  obtain⟨a,rfl⟩:=JQ (bu h6)
  obtain⟨ta,pa,ja⟩:=sA l h5
  refine⟨_,fun Z g E hg=>?_,Rj ja⟩
  have hg:=hg h0
  cases g<;>first|exact absurd hg aZ|skip
  exact @Py _ K _ _ _ _ _ _ _ E.k (E.gl h2) (E.mg h3) (pa Z E) (cG (all1 h4).1)
 |.s x,tg,sc,N,e,h=>by
  obtain⟨ta,pa,ja⟩:=sX x (e:=e) h
  exact⟨_,fun Z g E _=>Tn (pa Z E),Up ja⟩
 |.t x,tg,sc,N,e,h=>by
  obtain⟨ta,pa,ja⟩:=sX x (e:=e) h
  exact⟨_,fun Z g E _=>Rn E.k (pa Z E),TY ja⟩
 |.l x,tg,sc,N,e,h=>by
  obtain⟨ta,pa,ja⟩:=sX x (e:=e) h
  exact⟨_,fun Z g E _=>O4 E.k (pa Z E),QQ ja⟩
end
end
noncomputable def loc(sc:Scope)(x:Str):Bool:=match sc.names.lookup x with
 |some .local=>true
 |some .cell=>true
 |_=>false
theorem Hy{sc:Scope}{x:Str}(h:loc sc x=true):L2.Loc sc x:=by
 unfold loc at h;unfold L2.Loc
 split at h<;>first|exact absurd h aZ|simp_all
mutual
noncomputable def kG:G→Scope→List Str→Expr→Bool
 |.n i,sc,N,e=>on (rM e) fun x=>decide (N[i]?=some x)&&loc sc x
 |.t k l,sc,N,e=>on (vm e) fun es=>decide (es.length=k)&&es.all du&&yS l sc N es
 |.l k l,sc,N,e=>on (vm e) fun es=>decide (es.length=k)&&es.all du&&yS l sc N es
noncomputable def yS:Gs→Scope→List Str→List Expr→Bool
 |.n,_,_,es=>es.isEmpty
 |.c g l,sc,N,es=>on (jS es) fun q=>du q.1&&kG g sc N q.1&&yS l sc N q.2
end
noncomputable def Bq:Expr→Bool
 |.List [] _=>true
 |_=>false
theorem RT{e:Expr}(h:Bq e=true):∃p,e=.List [] p:=by
 unfold Bq at h
 split at h
 ·exact⟨_,rfl⟩
 ·cases h
noncomputable def pK:Stmt→Option (Expr×Expr×Pos)
 |.Assign [tg] e pos=>some (tg,e,pos)
 |_=>none
noncomputable def rN(st:Stmt):Option (Str×Expr):=(pK st).bind fun q=>(rM q.1).map fun x=>(x,q.2.1)
noncomputable def yT:Stmt→Option Expr
 |.Expr e _=>some e
 |_=>none
noncomputable def Dk:Stmt→Option (Option Expr)
 |.Return e _=>some e
 |_=>none
noncomputable def Dl:Stmt→Option (Expr×List Stmt×List Stmt)
 |.If e a b _=>some (e,a,b)
 |_=>none
noncomputable def vo:Stmt→Option (Expr×Expr×List Stmt)
 |.For tg it b [] _=>some (tg,it,b)
 |_=>none
noncomputable def Dm:Stmt→Option (Expr×List Stmt)
 |.While e b [] _=>some (e,b)
 |_=>none
theorem sR{st:Stmt}{q:Expr×Expr×Pos}(h:pK st=some q):st=.Assign [q.1] q.2.1 q.2.2:=by
 unfold pK at h
 split at h
 ·cases h;rfl
 ·cases h
theorem sU{st:Stmt}{y:Str}{e:Expr}(h:rN st=some (y,e)):∃p pos,st=.Assign [.Name y p] e pos:=by
 obtain⟨q,h1,h⟩:=ip h
 obtain⟨x,h2,h⟩:=wu h
 cases h
 obtain⟨p,e⟩:=qk h2
 exact⟨p,q.2.2,by rw[sR h1,e]⟩
theorem wA{st:Stmt}{e:Expr}(h:yT st=some e):∃p,st=.Expr e p:=by
 cases st<;>cases h;exact⟨_,rfl⟩
theorem An{st:Stmt}{e:Option Expr}(h:Dk st=some e):∃p,st=.Return e p:=by
 cases st<;>cases h;exact⟨_,rfl⟩
theorem Hz{st:Stmt}{e:Expr}{a b:List Stmt}(h:Dl st=some (e,a,b)):∃p,st=.If e a b p:=by
 cases st<;>cases h;exact⟨_,rfl⟩
theorem Ao{st:Stmt}{a b:Expr}{l:List Stmt}(h:vo st=some (a,b,l)):∃p,st=.For a b l [] p:=by
 unfold vo at h
 split at h
 ·cases h;exact⟨_,rfl⟩
 ·cases h
theorem UM{st:Stmt}{e:Expr}{l:List Stmt}(h:Dm st=some (e,l)):∃p,st=.While e l [] p:=by
 unfold Dm at h
 split at h
 ·cases h;exact⟨_,rfl⟩
 ·cases h
noncomputable def Yj:Option (List Nat)→Bool
 |some (_::_)=>true
 |_=>false
noncomputable def Dp(c:Cf)(lv:Nat)(f:Nat)(l:A)(sc:Scope)(N:List Str)(e:Expr):Bool :=
 on (eN e) fun q=>on c.fs[f]? fun i=>decide (q.1=i.nm)&&gl sc q.1&&!(q.1 == "__debug__")&&decide (i.lv≤lv)&&decide (q.2.length=i.ar)&&Yj i.io&&!q.2.isEmpty&&kA c lv l sc N q.2
noncomputable def kL(c:Cf)(lv:Nat):L→Scope→List Str→Stmt→Bool
 |.rt x,sc,N,st=>on (Dk st) fun o=>on o fun e=>kX c lv x sc N e
 |.st i x,sc,N,st=>on (rN st) fun s=>decide (N[i]?=some s.1)&&loc sc s.1&&lJ s.2&&kX c lv x sc N s.2
 |.sc j i ix q e,sc,N,st=>on (rN st) fun s=>decide (N[j]?=some s.1)&&loc sc s.1&&kX c lv (.cp i ix q e) sc N s.2
 |.as g x,sc,N,st=>on (pK st) fun s=>w5 s.1&&vj s.2.1&&kG g sc N s.1&&kX c lv x sc N s.2.1
 |.si k i x,sc,N,st=>on (pK st) fun s=>on (ll s.1) fun u=>mz u.2&&lJ s.2.1&&kX c lv (.v k) sc N u.1&&kX c lv i sc N u.2&&kX c lv x sc N s.2.1
 |.dp k i x,sc,N,st=>on (pK st) fun s=>on (ll s.1) fun u=>lJ s.2.1&&kX c lv (.v k) sc N u.1&&kX c lv i sc N u.2&&kX c lv x sc N s.2.1
 |.ap k x,sc,N,st=>on (yT st) fun e=>on (eM "append" e) fun q=>on (l1 q.2) fun a=>kX c lv (.v k) sc N q.1&&kX c lv x sc N a
 |.na k i x,sc,N,st=>on (yT st) fun e=>on (eM "append" e) fun q=>on (l1 q.2) fun a=>on (ll q.1) fun u=>mz u.2&&kX c lv (.v k) sc N u.1&&kX c lv i sc N u.2&&kX c lv x sc N a
 |.ne i it,sc,N,st=>on (rN st) fun s=>on (xM s.2) fun q=>decide (N[i]?=some s.1)&&loc sc s.1&&q.2.2.2.2.1.isEmpty&&Bq q.1&&C7 N (ns N q.2.1 []) sc q.2.2.2.2.2.1 q.2.1 []&&(iL q.2.2.2.1&&kI c lv it false sc N q.2.2.2.1)
 |.rT l,sc,N,st=>on (Dk st) fun o=>on o fun e=>on (vm e) fun es=>kA c lv l sc N es
 |.iD f _ l,sc,N,st=>on (yT st) fun e=>Dp c lv f l sc N e
 |.iS j f _ l,sc,N,st=>on (rN st) fun s=>decide (N[j]?=some s.1)&&loc sc s.1&&Dp c lv f l sc N s.2
noncomputable def Lv(c:Cf)(lv:Nat)(i:Nat):Ch→Scope→List Str→Stmt→Bool
 |.a k x,sc,N,st=>kL c lv (.na i k x) sc N st
 |.d k y x,sc,N,st=>on (pK st) fun s=>on (ll s.1) fun u=>on (ll u.1) fun v=>lJ s.2.1&&mz v.2&&kX c lv (.v i) sc N v.1&&kX c lv k sc N v.2&&kX c lv y sc N u.2&&kX c lv x sc N s.2.1
noncomputable def xO(c:Cf)(lv:Nat)(i:Nat):List Ch→Scope→List Str→List Stmt→Option (List Stmt)
 |[],_,_,ss=>some ss
 |x::l,sc,N,st::ss=>if Lv c lv i x sc N st=true then xO c lv i l sc N ss else none
 |_,_,_,_=>none
mutual
noncomputable def kS(c:Cf)(lv:Nat):S→Scope→List Str→Stmt→Bool
 |.l x,sc,N,st=>kL c lv x sc N st
 |.ie t a b,sc,N,st=>on (Dl st) fun q=>kT c lv t sc N q.1&&kB c lv a sc N q.2.1&&kB c lv b sc N q.2.2
 |.fo i g b,sc,N,st=>on (vo st) fun q=>kI c lv i (w5 q.1) sc N q.2.1&&iL q.2.1&&kG g sc N q.1&&kB c lv b sc N q.2.2
 |.fi k g b,sc,N,st=>on (vo st) fun q=>on (eM "items" q.2.1) fun u=>w5 q.1&&u.2.isEmpty&&kX c lv (.v k) sc N u.1&&kG g sc N q.1&&kB c lv b sc N q.2.2
 |.fk k g b,sc,N,st=>on (vo st) fun q=>iL q.2.1&&kX c lv (.v k) sc N q.2.1&&kG g sc N q.1&&kB c lv b sc N q.2.2
 |.wh t b,sc,N,st=>on (Dm st) fun q=>kT c lv t sc N q.1&&kB c lv b sc N q.2
 |.fz _ s,sc,N,st=>kS c lv s sc N st
noncomputable def kB(c:Cf)(lv:Nat):B→Scope→List Str→List Stmt→Bool
 |.n,_,_,ss=>ss.isEmpty
 |.o s,sc,N,ss=>on (l1 ss) fun st=>kS c lv s sc N st
 |.c s b,sc,N,ss=>on (jS ss) fun q=>kS c lv s sc N q.1&&kB c lv b sc N q.2
 |.u i x q r cs b,sc,N,ss=>on (jS ss) fun s=>on (jS s.2) fun z=>on (rN s.1) fun w=>on (Dl z.1) fun g=>on (l1 g.2.1) fun st=>on (xO c lv i cs sc N z.2) fun r'=>(decide (N[i]?=some w.1)&&loc sc w.1&&lJ w.2&&kX c lv x sc N w.2)&&kT c lv q sc N g.1&&kL c lv (.rt r) sc N st&&g.2.2.isEmpty&&kB c lv b sc N r'
end
structure CS (c:Cf)(lv:Nat)(K:PySem.W.Frag)(t:List FT)(va:List V)(sc:Scope)(N:List Str)(Z:Cx):Prop where
 e:CE c lv K t va sc N Z
 nd:N.Nodup
 fn:∀x,Z.fn x=true
 po:PassesOwn (model Z.prog Z.w) Z.A Z.env Z.xe
 kd:sc.kind=.function
section
variable {c:Cf}{lv:Nat}{K:PySem.W.Frag}{t:List FT}{va:List V}
theorem sV{k:Nat}{sc:Scope}{N:List Str}{e:Expr}(h:kX c lv (.v k) sc N e=true)(Z:Cx)(E:CE c lv K t va sc N Z):PE Z e (gq k):=by
 have hh:=ax h;clear h;obtain⟨x,q,h⟩:=hh
 obtain⟨p,rfl⟩:=qk q
 obtain⟨h1,h2,h3,h4⟩:=fT h
 have h1:=bu h1
 have h2:=Hs h2
 exact @z8 _ _ _ _ (E.n▸h1) (E.sc▸h2) (nb h3) (nb h4)
theorem ER{e:Expr}(h:du e=true){es:List Expr}{env:Env}:assignEach (e::es) env=(false,assign e env)::assignEach es env:=by
 cases e<;>first|rfl|cases h
theorem rX{env:Env}:∀{es:List Expr},es.all du=true→(assignEach es env).length=es.length∧(assignEach es env).findIdx? (fun x=>x.1)=none
 |[],_=>⟨rfl,rfl⟩
 |e::es,h=>by
  rw[jE,gx]at h
  obtain⟨h1,h2⟩:=rX (env:=env) h.2
  rw[ER h.1]
  refine⟨by simp[h1],?_⟩
  rw[List.findIdx?_cons,h2]
  rfl
mutual
theorem sG:∀(g:G) {sc:Scope}{N:List Str}{e:Expr},kG g sc N e=true→∃tg,(∀Z,CS c lv K t va sc N Z→PG Z e tg)∧JG K tg (eG g)
 |.n i,sc,N,e,h=>by
  have hh:=ax h;clear h;obtain⟨x,q,h⟩:=hh
  obtain⟨p,rfl⟩:=qk q
  obtain⟨h1,h2⟩:=cR h
  have h1:=bu h1
  exact⟨_,fun Z E=>@FL _ _ i _ (E.e.n▸E.nd) (E.e.n▸h1) (E.e.sc▸Hy h2) (.inl (E.fn _)),QS⟩
 |.t k l,sc,N,e,h=>by
  have hh:=ax h;clear h;obtain⟨es,q,h⟩:=hh
  obtain⟨k',p,rfl⟩:=wz q
  obtain⟨h1,h2,h3⟩:=fS h
  cases bu h1
  obtain⟨tg,pg,jg⟩:=Dq l h3
  exact⟨_,fun Z E=>E.e.k▸@Sz _ _ _ _ _ _ E.e.calm (pg Z E) (rX h2).1 (rX h2).2,T1 jg⟩
 |.l k l,sc,N,e,h=>by
  have hh:=ax h;clear h;obtain⟨es,q,h⟩:=hh
  obtain⟨k',p,rfl⟩:=wz q
  obtain⟨h1,h2,h3⟩:=fS h
  cases bu h1
  obtain⟨tg,pg,jg⟩:=Dq l h3
  exact⟨_,fun Z E=>E.e.k▸@Tg _ _ _ _ _ _ E.e.calm (pg Z E) (rX h2).1 (rX h2).2,Ul jg⟩
theorem Dq:∀(l:Gs) {sc:Scope}{N:List Str}{es:List Expr},yS l sc N es=true→∃tg,(∀Z,CS c lv K t va sc N Z→rg Z es tg)∧rD K tg (yO l)
 |.n,_,_,es,h=>by
  cases fC.mp h
  exact⟨_,fun _ _=>Ql,QT⟩
 |.c g l,sc,N,es,h=>by
  have hh:=ax h;clear h;obtain⟨⟨e,r⟩,q,h⟩:=hh
  cases iq q
  obtain⟨h0,h1,h2⟩:=fS h
  obtain⟨ta,pa,ja⟩:=sG g h1
  obtain⟨tl,pl,jl⟩:=Dq l h2
  exact⟨_,fun Z E=>@OD _ _ _ _ _ (pa Z E) (pl Z E) (by rw[ER h0];rfl),Pl ja jl⟩
end
theorem Lw:∀(l:A) {sc:Scope}{N:List Str}{es:List Expr},kA c lv l sc N es=true→∃ta,(∀Z,CE c lv K t va sc N Z→PA Z es ta)∧jQ K ta (eA t l) (qP l)
 |.n,_,_,es,h=>by
  cases fC.mp h
  exact⟨_,fun _ _=>sH,Rk⟩
 |.c a l,sc,N,es,h=>by
  have hh:=ax h;clear h;obtain⟨⟨e,r⟩,q,h⟩:=hh
  cases iq q
  obtain⟨h0,h1,h2⟩:=fS h
  obtain⟨tl,pl,jl⟩:=Lw l h2
  cases a with
  |v i=>exact⟨_,fun Z E=>@vM _ _ _ _ _ (sV h1 Z E) (pl Z E) (cG h0),Rl jl⟩
  |_ =>
   obtain⟨ta,pa,ja⟩:=sX _ h1
   exact⟨_,fun Z E=>@vM _ _ _ _ _ (pa Z E) (pl Z E) (cG h0),Pz ja jl⟩
theorem lK{e:Expr}{o:Option Expr}{n:Nat}{env:Env}(h:lJ e=true):swapsWith e o n env=pure false:=by
 cases e<;>first|rfl|cases h
end
end C
set_option maxHeartbeats 4000000
namespace C
open PySem PySem.Spec L2 J
section
variable {c:Cf}{lv:Nat}{K:PySem.W.Frag}{t:List FT}{va:List V}
theorem Gw{el:Expr}{gs:List Comprehension}{au:Scope}{ep py:Pos}{y:Str}{n:Nat}{env:Env} :
  swapsWith (.ListComp el gs au ep) (some (.Name y py)) n env=pure true∧env.scope.names.lookup y=some .local∨swapsWith (.ListComp el gs au ep) (some (.Name y py)) n env=pure false:=by
 have e:swapsWith (.ListComp el gs au ep) (some (.Name y py)) n env=pure (env.blockKind==.function&&env.kindOf y==some .local&&py.line==ep.line&&!(au.names.any fun x=>match x with | (n,k)=>n==y&&(k==NameKind.local||k==NameKind.cell))):=rfl
 rw[e]
 generalize hb:(env.blockKind==.function&&env.kindOf y==some .local&&py.line==ep.line&&!(au.names.any fun x=>match x with | (n,k)=>n==y&&(k==NameKind.local||k==NameKind.cell)))=b
 cases b with
 |false=>exact .inr rfl
 |true =>
  obtain⟨_,h,_,_⟩:=fT hb
  exact .inl ⟨rfl,by simpa[Env.kindOf]using h⟩
theorem Yk{i:I}{ix:List Nat}{t':T}{d:X}{sc:Scope}{N:List Str}{e:Expr}(h:kX c lv (.cp i ix t' d) sc N e=true) :
  ∃el x px it ifs au ep wi tc te,e=.ListComp el [⟨.Name x px,it,ifs,0⟩] au ep∧(∀Z,CE c lv K t va sc N Z→j4 Z.N (ns N x ix) Z.env.scope au x ix∧PI Z (.Name x px) it wi∧(∀C s₂ H₂ fp pn,mj (Z.bU (ns N x ix) au C s₂ H₂ fp pn) ifs tc)∧(∀C s₂ H₂ fp pn,PE (Z.bU (ns N x ix) au C s₂ H₂ fp pn) el te))∧iL it=true∧JT K (qq wi ix tc te) (eX t (.cp i ix t' d)):=by
 have hh:=ax h;clear h;obtain⟨⟨el,x,px,it,ifs,au,ep⟩,q,h⟩:=hh
 cases zX q
 obtain⟨h1,h2,h3,h4,h5⟩:=mB h
 have h1:=Al h1
 obtain⟨ti,pi,ji⟩:=sI i h3
 obtain⟨te,pe,je⟩:=sX d h5
 have h4:(ifs.isEmpty=true∧De t'=true)∨(on (l1 ifs) fun y=>kT c lv t' (rl sc au) (ns N x ix) y)=true:=by simpa using h4
 rcases h4 with⟨w1,w2⟩|h4
 ·cases fC.mp w1
  cases t'<;>first|exact absurd w2 aZ|skip
  exact⟨el,x,px,it,[],au,ep,_,_,_,rfl,fun Z E=>⟨by rw[E.n,E.sc];exact h1,pi Z (.Name x px) E (fun z=>absurd z aZ),(fun C s₂ H₂ fp pn=>vN),(fun C s₂ H₂ fp pn=>pe _ E.bU)⟩,h2,vR ji F7 je⟩
 ·have hh:=ax h4;clear h4;obtain⟨y,q,h4⟩:=hh
  cases iB q
  obtain⟨tq,pq,jq⟩:=sT t' h4
  exact⟨el,x,px,it,[y],au,ep,_,_,_,rfl,fun Z E=>⟨by rw[E.n,E.sc];exact h1,pi Z (.Name x px) E (fun z=>absurd z aZ),(fun C s₂ H₂ fp pn=>FZ (pq _ E.bU)),(fun C s₂ H₂ fp pn=>pe _ E.bU)⟩,h2,vR ji jq je⟩
theorem Lx{f:Nat}{l:A}{sc:Scope}{N:List Str}{e:Expr}(h:Dp c lv f l sc N e=true):∃n ta,(∀Z,CE c lv K t va sc N Z→PE Z e (j7 (qL K n (FT.l t[f]?) (FT.o t[f]?)) [] E0 ta))∧jQ K ta (eA t l) (qP l)∧lJ e=true∧∀(e:Ev) (ak:List (M×D)),eA t l e=some ak→ak.length=n:=by
 have hh:=ax h;clear h;obtain⟨⟨x,as⟩,q,h⟩:=hh
 obtain⟨p,cp,rfl,vn⟩:=oB q
 have hh:=ax h;clear h;obtain⟨i,hf,h⟩:=hh
 obtain⟨h1,h2,h3,h4,h5,gS,h0,h8⟩:=Di h
 obtain⟨a,r,rfl⟩:=vW h0
 obtain⟨h6,h7⟩:=all1 vn
 have h1:=bu h1
 obtain⟨ta,pa,ja⟩:=Lw l h8
 have hl:=xN (t:=t) h8
 rw[show(a::r).length=i.ar from bu h5]at hl
 refine⟨i.ar,ta,fun Z E=>?_,ja,rfl,hl⟩
 obtain⟨F,hF,q⟩:=E.fs f i hf
 cases F with
 |p F=>rw[q.1]at gS;cases gS
 |oo F=>rw[q.1]at gS;cases gS
 |io l F =>
  obtain⟨_,a,fd,ps,k1,k2,k3,k4⟩:=q
  rw[←h1]at k2
  rw[hF,←E.k]
  exact @zL _ _ _ _ _ _ _ _ _ _ _ _ _ _ _ _ k1 (E.rm.mono (bu h4)) (E.gl h2) k2 k3 k4.1 .nil Az (pa Z E) (nb h3) (cG h6) (gX h7 _)
theorem UN{e:Expr}(h:vj e=true):lJ e=true:=by
 cases e<;>first|rfl|cases h
theorem UO{e:Expr}{es:List Expr}{k:Nat}{p:Pos}{env:Env}(h:vj e=true):swappedStores [.Tuple es k p] e env=pure none:=by
 cases e<;>first|rfl|cases h
theorem pC{o a:Expr}{ap cp:Pos}{to ta:TE}{Z:Cx}(k:Z.K=K)(ho:PE Z o to)(ha:PE Z a ta)(h4:lj o=true)(h5:(ap.endLine==cp.line)=true)(h6:du a=true):PE Z (.Call (.Attribute o "append" ap) [a] [] cp) (pw K "list" su to (lG ta kr)) :=
 k▸@H0 _ _ _ _ _ _ _ _ _ _ _ _ PySem.F.plainAttrs_list PySem.F.slot_list_append PySem.F.type_list_append EB ho (@vM _ _ _ _ _ ha sH (cG h6)) (qj h4) (Hw h6) h5 (cG h6) Hx
theorem uc{Z:Cx}{sc:Scope}{N:List Str}{e:Expr}{te:TE}{pos py:Pos}{y:Str}{i:Nat}(E:CS c lv K t va sc N Z)(h1:N[i]?=some y)(h2:loc sc y=true)(h:PE Z e te)(hs:swapsWith e (some (Expr.Name y py)) pos.line Z.env=pure false):eC Z (.Assign [.Name y py] e pos) (gK te (g0 i)) :=
 @Uq _ _ _ _ _ _ i (E.e.n▸E.nd) (E.e.n▸h1) (E.e.sc▸Hy h2) h hs (.inl (E.fn _))
theorem sL:∀(s:L) {sc:Scope}{N:List Str}{st:Stmt},kL c lv s sc N st=true→∃ts,(∀Z,CS c lv K t va sc N Z→eC Z st ts)∧JS K ts (eL t s)
 |.rt x,sc,N,st,h=>by
  have hh:=ax h;clear h;obtain⟨o,q,h⟩:=hh
  obtain⟨p,rfl⟩:=An q
  have hh:=ax h;clear h;obtain⟨e,rfl,h⟩:=hh
  obtain⟨te,pe,je⟩:=sX x h
  exact⟨_,fun Z E=>Ai (pe Z E.e),TQ je⟩
 |.st i x,sc,N,st,h=>by
  have hh:=ax h;clear h;obtain⟨⟨y,e⟩,q,h⟩:=hh
  obtain⟨py,pos,rfl⟩:=sU q
  obtain⟨h1,h2,h3,h4⟩:=fT h
  obtain⟨te,pe,je⟩:=sX x h4
  exact⟨_,fun Z E=>uc E (bu h1) h2 (pe Z E.e) (lK h3),G6 je⟩
 |.sc j i ix t' d,sc,N,st,h=>by
  have hh:=ax h;clear h;obtain⟨⟨y,e⟩,q,h⟩:=hh
  obtain⟨py,pos,rfl⟩:=sU q
  obtain⟨h1,h2,h3⟩:=fS h
  have h1:=bu h1
  obtain⟨el,z,pz,it,ifs,au,ep,wi,tc,te,e,pe,ns,je⟩:=Yk h3
  have e:_=Expr.ListComp el [⟨.Name z pz,it,ifs,0⟩] au ep:=e
  subst e
  refine⟨_,fun Z E=>?_,G6 je⟩
  obtain⟨p1,p2,p3,p4⟩:=pe Z E.e
  rcases Gw (el:=el) (gs:=[⟨.Name z pz,it,ifs,0⟩]) (au:=au) (ep:=ep) (py:=py) (y:=y) (n:=pos.line) (env:=Z.env) with⟨w,l⟩|w
  ·exact @El _ _ _ _ _ _ _ _ _ _ _ _ _ j _ _ _ (E.e.n▸E.nd) (E.e.n▸h1) l p1 E.e.calm p2 p3 p4 w (jY ns)
  ·exact uc E h1 h2 (@vO _ _ _ _ _ _ _ _ _ _ _ _ _ p1 E.e.calm p2 p3 p4 (jY ns)) w
 |.as g x,sc,N,st,h=>by
  have hh:=ax h;clear h;obtain⟨⟨tg,e,pos⟩,q,h⟩:=hh
  cases sR q
  obtain⟨h1,h2,h3,h4⟩:=fT h
  obtain⟨te,pe,je⟩:=sX x h4
  obtain⟨Dr,pg,jg⟩:=sG g h3
  refine⟨_,fun Z E=>@Hl _ _ _ _ _ _ (pe Z E.e) (pg Z E) ?_ ?_ ?_,T2 je jg⟩
  ·exact(show swapsWith e (some tg) pos.line Z.env=pure false from lK (UN h2))
  ·cases tg<;>first|exact absurd h1 aZ|skip
   exact UO h2
  ·cases tg<;>first|rfl|exact absurd h1 aZ
 |.si k i x,sc,N,st,h=>by
  have hh:=ax h;clear h;obtain⟨⟨tg,e,pos⟩,q,h⟩:=hh
  cases sR q
  have hh:=ax h;clear h;obtain⟨⟨o,ie⟩,q,h⟩:=hh
  obtain⟨p,r⟩:=j6 q
  have r:tg=_:=r
  subst r
  obtain⟨h1,h2,h3,h4,h5⟩:=mB h
  obtain⟨ti,pi,ji⟩:=sX i h4
  obtain⟨te,pe,je⟩:=sX x h5
  refine⟨_,fun Z E=>@Hl _ _ _ _ _ _ (pe Z E.e) (@SD _ _ _ _ _ _ _ (sV h3 Z E.e) (pi Z E.e) set_list (UB h1)) ?_ ?_ rfl,Ph je ji⟩
  ·exact(show swapsWith e (some (Expr.Subscript o ie p)) pos.line Z.env=pure false from lK h2)
  ·cases e<;>rfl
 |.dp k i x,sc,N,st,h=>by
  have hh:=ax h;clear h;obtain⟨⟨tg,e,pos⟩,q,h⟩:=hh
  cases sR q
  have hh:=ax h;clear h;obtain⟨⟨o,ie⟩,q,h⟩:=hh
  obtain⟨p,r⟩:=j6 q
  have r:tg=_:=r
  subst r
  obtain⟨h2,h3,h4,h5⟩:=fT h
  obtain⟨ti,pi,ji⟩:=sX i h4
  obtain⟨te,pe,je⟩:=sX x h5
  exact⟨_,fun Z E=>Gd (lH E.e.rm) (sV h3 Z E.e) (pi Z E.e) (pe Z E.e) (lK h2),Ru je ji⟩
 |.ap k x,sc,N,st,h=>by
  have hh:=ax h;clear h;obtain⟨e,q,h⟩:=hh
  obtain⟨pos,rfl⟩:=wA q
  have hh:=ax h;clear h;obtain⟨⟨o,as⟩,q,h⟩:=hh
  obtain⟨ap,cp,rfl,h2,h3,h4⟩:=oA q
  have hh:=ax h;clear h;obtain⟨a,q1,h⟩:=hh
  cases iB q1
  obtain⟨h5,h6⟩:=cR h
  obtain⟨te,pe,je⟩:=sX x h6
  exact⟨_,fun Z E=>@vT _ _ _ _ (pC E.e.k (sV h5 Z E.e) (pe Z E.e) h2 h3 (all1 h4).1) rfl,TV je⟩
 |.na k i x,sc,N,st,h=>by
  have hh:=ax h;clear h;obtain⟨e,q,h⟩:=hh
  obtain⟨pos,rfl⟩:=wA q
  have hh:=ax h;clear h;obtain⟨⟨o,as⟩,q,h⟩:=hh
  obtain⟨ap,cp,rfl,h2,h3,h4⟩:=oA q
  have hh:=ax h;clear h;obtain⟨a,q1,h⟩:=hh
  cases iB q1
  have hh:=ax h;clear h;obtain⟨⟨o',ie⟩,q,h⟩:=hh
  obtain⟨p,r⟩:=j6 q
  have r:o=_:=r
  subst r
  obtain⟨h0,h5,h6,h7⟩:=fT h
  obtain⟨ti,pi,ji⟩:=sX i h6
  obtain⟨te,pe,je⟩:=sX x h7
  exact⟨_,fun Z E=>@vT _ _ _ _ (pC E.e.k (@wI _ _ _ _ _ _ _ (vP E.e.k) (sV h5 Z E.e) (pi Z E.e) (w6 h0)) (pe Z E.e) h2 h3 (all1 h4).1) rfl,Ry ji je⟩
 |.ne i it,sc,N,st,h=>by
  have hh:=ax h;clear h;obtain⟨⟨y,e⟩,q,h⟩:=hh
  obtain⟨py,pos,rfl⟩:=sU q
  have hh:=ax h;clear h;obtain⟨⟨el,z,pz,ie,ifs,au,ep⟩,q,h⟩:=hh
  have r:e=_:=zX q
  subst r
  obtain⟨h1,h2,q1,q2,h6,h7⟩:=yQ h
  obtain⟨h4,h5⟩:=cR h7
  have h1:=bu h1
  obtain⟨lp,r⟩:=RT q2
  have r:el=_:=r
  subst r
  cases fC.mp q1
  have h6:=Al h6
  obtain⟨ti,pi,ji⟩:=sI it h5
  refine⟨_,fun Z E=>?_,Rx (ix:=[]) ji⟩
  have p1:j4 Z.N (ns N z []) Z.env.scope au z []:=by rw[E.e.n,E.e.sc];exact h6
  have p2:=pi Z (.Name z pz) E.e (fun z=>absurd z aZ)
  rcases Gw (el:=.List [] lp) (gs:=[⟨.Name z pz,ie,[],0⟩]) (au:=au) (ep:=ep) (py:=py) (y:=y) (n:=pos.line) (env:=Z.env) with⟨w,l⟩|w
  ·exact @El _ _ _ _ _ _ _ _ _ _ _ _ _ i _ _ _ (E.e.n▸E.nd) (E.e.n▸h1) l p1 E.e.calm p2 (fun C s₂ H₂ fp pn=>vN) (fun C s₂ H₂ fp pn=>Aa sH) w (jY h4)
  ·exact uc E h1 h2 (@vO _ _ _ _ _ _ _ _ _ _ _ _ _ p1 E.e.calm p2 (fun C s₂ H₂ fp pn=>vN) (fun C s₂ H₂ fp pn=>Aa sH) (jY h4)) w
 |.rT l,sc,N,st,h=>by
  have hh:=ax h;clear h;obtain⟨o,q,h⟩:=hh
  obtain⟨p,rfl⟩:=An q
  have hh:=ax h;clear h;obtain⟨e,rfl,h⟩:=hh
  have hh:=ax h;clear h;obtain⟨es,q,h⟩:=hh
  obtain⟨k',p',rfl⟩:=wz q
  obtain⟨ta,pa,ja⟩:=sA l h
  exact⟨_,fun Z E=>Ai (GO (pa Z E.e)),RK ja⟩
 |.iD f sl l,sc,N,st,h=>by
  have hh:=ax h;clear h;obtain⟨e,q,h⟩:=hh
  obtain⟨pos,rfl⟩:=wA q
  obtain⟨n,ta,p1,p2,nc,p3⟩:=Lx h
  exact⟨_,fun Z E=>@vT _ _ _ _ (p1 Z E.e) (lK nc),N0 p2 p3⟩
 |.iS j f sl l,sc,N,st,h=>by
  have hh:=ax h;clear h;obtain⟨⟨y,e⟩,q,h⟩:=hh
  obtain⟨py,pos,rfl⟩:=sU q
  obtain⟨h1,h2,h3⟩:=fS h
  obtain⟨n,ta,p1,p2,nc,p3⟩:=Lx h3
  exact⟨_,fun Z E=>uc E (bu h1) h2 (p1 Z E.e) (lK nc),PB p2 p3⟩
theorem Yl{i:Nat}:∀(x:Ch) {sc:Scope}{N:List Str}{st:Stmt},Lv c lv i x sc N st=true→∃ts,(∀Z,CS c lv K t va sc N Z→eC Z st ts)∧yK K i ts (C5 t x)
 |.a k x,sc,N,st,h=>by
  have hh:=ax h;clear h;obtain⟨e,q,h⟩:=hh
  obtain⟨pos,rfl⟩:=wA q
  have hh:=ax h;clear h;obtain⟨⟨o,as⟩,q,h⟩:=hh
  obtain⟨ap,cp,rfl,h2,h3,h4⟩:=oA q
  have hh:=ax h;clear h;obtain⟨a,q1,h⟩:=hh
  cases iB q1
  have hh:=ax h;clear h;obtain⟨⟨o',ie⟩,q,h⟩:=hh
  obtain⟨p,r⟩:=j6 q
  have r:o=_:=r
  subst r
  obtain⟨h0,h5,h6,h7⟩:=fT h
  obtain⟨ti,pi,ji⟩:=sX k h6
  obtain⟨te,pe,je⟩:=sX x h7
  exact⟨_,fun Z E=>@vT _ _ _ _ (pC E.e.k (@wI _ _ _ _ _ _ _ (vP E.e.k) (sV h5 Z E.e) (pi Z E.e) (w6 h0)) (pe Z E.e) h2 h3 (all1 h4).1) rfl,VA ji je⟩
 |.d k y x,sc,N,st,h=>by
  have hh:=ax h;clear h;obtain⟨⟨tg,e,pos⟩,q,h⟩:=hh
  cases sR q
  have hh:=ax h;clear h;obtain⟨⟨o,ie⟩,q,h⟩:=hh
  obtain⟨p,r⟩:=j6 q
  have r:tg=_:=r
  subst r
  have hh:=ax h;clear h;obtain⟨⟨o',ke⟩,q,h⟩:=hh
  obtain⟨p',r⟩:=j6 q
  have r:o=_:=r
  subst r
  obtain⟨h1,h2,h3,h4,h5,h6⟩:=yQ h
  obtain⟨tk,pk,jk⟩:=sX k h4
  obtain⟨ty,py,jy⟩:=sX y h5
  obtain⟨te,pe,je⟩:=sX x h6
  exact⟨_,fun Z E=>Gd (lH E.e.rm) (@wI _ _ _ _ _ _ _ (vP E.e.k) (sV h3 Z E.e) (pk Z E.e) (w6 h2)) (py Z E.e) (pe Z E.e) (lK h1),VB jk jy je⟩
theorem JV{i:Nat}:∀(l:List Ch) {sc:Scope}{N:List Str}{ss rs:List Stmt},xO c lv i l sc N ss=some rs→∃ts,(∀Z tb,CS c lv K t va sc N Z→iJ Z rs tb→iJ Z ss (ts.foldr lN tb))∧qN K i ts (l.map (C5 t))
  |[],sc,N,ss,rs,h=>by
    cases h
    exact⟨[],fun _ _ _ q=>q,.nil⟩
  |x::l,sc,N,[],rs,h=>by cases h
  |x::l,sc,N,st::ss,rs,h=>by
    unfold xO at h
    split at h
    · rename_i hk
      obtain⟨ta,pa,ja⟩:=Yl x hk
      obtain⟨ts,ps,js⟩:=JV l h
      exact⟨ta::ts,fun Z tb E q=>vJ (pa Z E) (ps Z tb E q),.cons ja js⟩
    · cases h
mutual
theorem sS:∀(s:S) {sc:Scope}{N:List Str}{st:Stmt},kS c lv s sc N st=true→∃ts,(∀Z,CS c lv K t va sc N Z→eC Z st ts)∧JS K ts (eS t s)
 |.l x,sc,N,st,h=>sL x (st:=st) h
 |.ie t' a b,sc,N,st,h=>by
  have hh:=ax h;clear h;obtain⟨⟨e,as,bs⟩,q,h⟩:=hh
  obtain⟨p,rfl⟩:=Hz q
  obtain⟨h1,h2,h3⟩:=fS h
  obtain⟨tq,pq,jq⟩:=sT t' h1
  obtain⟨ta,pa,ja⟩:=sB a h2
  obtain⟨tb,pb,jb⟩:=sB b h3
  exact⟨_,fun Z E=>IC (pq Z E.e) (pa Z E) (pb Z E),Vu jq ja jb⟩
 |.fo i g b,sc,N,st,h=>by
  have hh:=ax h;clear h;obtain⟨⟨tg,it,body⟩,q,h⟩:=hh
  obtain⟨p,rfl⟩:=Ao q
  obtain⟨h1,h2,h3,h4⟩:=fT h
  obtain⟨ti,pi,ji⟩:=sI i h1
  obtain⟨Dr,pg,jg⟩:=sG g h3
  obtain⟨tb,pb,jb⟩:=sB b h4
  exact⟨_,fun Z E=>@Aj _ _ _ _ _ _ _ _ E.po E.e.calm (pi Z tg E.e id) (pg Z E) (pb Z E) (jY h2),T3 ji jg jb⟩
 |.fi k g b,sc,N,st,h=>by
  have hh:=ax h;clear h;obtain⟨⟨tg,it,body⟩,q,h⟩:=hh
  obtain⟨p,rfl⟩:=Ao q
  have hh:=ax h;clear h;obtain⟨⟨o,as⟩,q,h⟩:=hh
  obtain⟨ap,cp,r,h2,h3,_⟩:=oA q
  have r:it=_:=r
  subst r
  obtain⟨h4,h0,h5,h6,h7⟩:=mB h
  cases fC.mp h0
  obtain⟨Dr,pg,jg⟩:=sG g h6
  obtain⟨tb,pb,jb⟩:=sB b h7
  refine⟨_,fun Z E=>?_,Rz (i:=k) jg jb⟩
  cases tg<;>first|exact absurd h4 aZ|skip
  exact Uv (@Aj _ _ _ _ _ _ _ _ E.po E.e.calm (@PR _ _ _ _ _ _ _ _ (sV h5 Z E.e) (qj h2) h3) (pg Z E) (pb Z E) (jY rfl))
 |.fk k g b,sc,N,st,h=>by
  have hh:=ax h;clear h;obtain⟨⟨tg,it,body⟩,q,h⟩:=hh
  obtain⟨p,rfl⟩:=Ao q
  obtain⟨h2,h5,h6,h7⟩:=fT h
  obtain⟨Dr,pg,jg⟩:=sG g h6
  obtain⟨tb,pb,jb⟩:=sB b h7
  exact⟨_,fun Z E=>RH (@Aj _ _ _ _ _ _ _ _ E.po E.e.calm (RL (sV h5 Z E.e)) (pg Z E) (pb Z E) (jY h2)),RN (i:=k) jg jb⟩
 |.wh t' b,sc,N,st,h=>by
  have hh:=ax h;clear h;obtain⟨⟨e,body⟩,q,h⟩:=hh
  obtain⟨p,rfl⟩:=UM q
  obtain⟨h1,h2⟩:=cR h
  obtain⟨tq,pq,jq⟩:=sT t' h1
  obtain⟨tb,pb,jb⟩:=sB b h2
  exact⟨_,fun Z E=>PK E.po (pq Z E.e) (pb Z E),Pm jq jb⟩
 |.fz k s,sc,N,st,h=>by
  obtain⟨ts,ps,js⟩:=sS s (st:=st) h
  exact⟨_,ps,TX js⟩
theorem sB:∀(b:B) {sc:Scope}{N:List Str}{ss:List Stmt},kB c lv b sc N ss=true→∃ts,(∀Z,CS c lv K t va sc N Z→iJ Z ss ts)∧JS K ts (eB t b)
 |.n,_,_,ss,h=>by
  cases fC.mp h
  exact⟨_,fun _ _=>Ga,QP⟩
 |.o s,_,_,ss,h=>by
  have hh:=ax h;clear h;obtain⟨st,q,h⟩:=hh
  cases iB q
  obtain⟨ts,ps,js⟩:=sS s h
  exact⟨_,fun Z E=>Gb (ps Z E),js⟩
 |.c s b,_,_,ss,h=>by
  have hh:=ax h;clear h;obtain⟨⟨st,r⟩,q,h⟩:=hh
  cases iq q
  obtain⟨h1,h2⟩:=cR h
  obtain⟨ts,ps,js⟩:=sS s h1
  obtain⟨tb,pb,jb⟩:=sB b h2
  exact⟨_,fun Z E=>vJ (ps Z E) (pb Z E),TN js jb⟩
 |.u i x q r cs b,sc,N,ss,h=>by
  have hh:=ax h;clear h;obtain⟨⟨s1,Ym⟩,w,h⟩:=hh
  cases iq w
  have hh:=ax h;clear h;obtain⟨⟨s2,Zz⟩,w,h⟩:=hh
  have w:Ym=_:=iq w
  subst w
  have hh:=ax h;clear h;obtain⟨⟨y,e⟩,w,h⟩:=hh
  obtain⟨py,pos,w⟩:=sU w
  have w:s1=_:=w
  subst w
  have hh:=ax h;clear h;obtain⟨⟨ce,as,bs⟩,w,h⟩:=hh
  obtain⟨p,w⟩:=Hz w
  have w:s2=_:=w
  subst w
  have hh:=ax h;clear h;obtain⟨st,w,h⟩:=hh
  have w:as=_:=iB w
  subst w
  have hh:=ax h;clear h;obtain⟨rs,w,h⟩:=hh
  obtain⟨h0,h5,h6,h7,h8⟩:=mB h
  obtain⟨h1,h2,h3,h4⟩:=fT h0
  have h7:bs=[]:=fC.mp h7
  subst h7
  have hh:=ax h6;clear h6;obtain⟨o,v,h6⟩:=hh
  obtain⟨p',rfl⟩:=An v
  have hh:=ax h6;clear h6;obtain⟨e',rfl,h6⟩:=hh
  obtain⟨te,pe,je⟩:=sX x h4
  obtain⟨tq,pq,jq⟩:=sT q h5
  obtain⟨tr,pr,jr⟩:=sX r h6
  obtain⟨tb,pb,jb⟩:=sB b h8
  obtain⟨ZC,pc,jc⟩:=JV cs w
  exact⟨_,fun Z E=>vJ (uc E (bu h1) h2 (pe Z E.e) (lK h3)) (vJ (IC (pq Z E.e) (Gb (Ai (pr Z E.e))) Ga) (pc Z tb E (pb Z E))),VC je jq jr jc jb⟩
end
end
end C
namespace C
open PySem PySem.Spec L2 J My
def gJ(P:Program)(w:World)(K:PySem.W.Frag)(mg:Str→Option Value)(base:Heap)(fs:List Fi)(t:List FT):Prop :=
 ∀(i:Nat) fi,fs[i]?=some fi→∃F,t[i]?=some F∧jT P w K mg base fi F
structure yU (K:PySem.W.Frag)(mg:Str→Option Value)(x:Str)(st:Stmt)(ps:List Str)(df:Option Int)(f:Addr)(fd:FuncData):Prop where
 mg:mg x=some (.ref f)
 fn:xI K x st f fd
 bd:Binds K fd ps []
 yJ:∀n,df=some n→∃t,Binds K fd ps [.int n t]
noncomputable def kF(c:Cf)(lv:Nat)(N ps:List Str)(st:Stmt)(b:B):Bool :=
 decide ((bP st).kind=.function∧(bP st).isCoroutine=false∧(bP st).isGenerator=false∧N.Nodup∧N.take ps.length=ps ∧
  (∀x∈ps,(bP st).names.lookup x=some .local∨(bP st).names.lookup x=some .cell)∧(∀y∈(bP st).names,y.2≠.free))&&kB c lv b (bP st) N (dn st)
section
variable {P:Program}{w:World}{K:PySem.W.Frag}{mg:Str→Option Value}{base:Heap}{t:List FT}{va:List V}
theorem gJ.nil:gJ P w K mg base [] t:=fun i fi h=>by simp at h
theorem gJ.cons{fs:List Fi}{f:Fi}{F:FT}(h:gJ P w K mg base fs t)(q:jT P w K mg base f F):gJ P w K mg base (f::fs) (F::t)
 |0,fi,e=>by cases e;exact⟨F,rfl,q⟩
 |i+1,fi,e=>h i fi e
theorem ctx{bs:List String}{gs:List (Str×Gv)}{fs:List Fi}{lv:Nat}{N ps:List Str}{st:Stmt}{b:B}{qual:Str}{f:Addr}{cd:Value}{A:Around}{outer:List Env}{s:Shared}{H:Hp}{E:XK}(h:gJ P w K mg base fs t)(hb:∀x∈bs,mg (Str.ofString x)=none)(hg:GV K mg va gs)(k:kF ⟨bs,gs,fs⟩ lv N ps st b=true)
  (hr:dw lv (A.deeper (PyProof.Rows.envOfC qual (bP st) s.heap.objs.size f cd))):CS ⟨bs,gs,fs⟩ lv K t va (bP st) N ((lO kZ P w K mg base N qual (bP st) f cd A outer s H E).pf):=by
 obtain⟨k1,k2⟩:=cR k
 obtain⟨h1,h2,h3,h4,h5,h6,h7⟩:=bu k1
 exact⟨⟨rfl,rfl,rfl,rfl,hr,hb,hg,h⟩,h4,fun _=>rfl,PassesOwn.never,h1⟩
theorem xP{c:Cf}{lv:Nat}{N ps:List Str}{st:Stmt}{b:B}(k:kF c lv N ps st b=true):sr N ps (bP st):=by
 obtain⟨h1,h2,h3,h4,h5,h6,h7⟩:=bu (cR k).1
 exact⟨h1,h2,h3,h4,h5,h6,h7⟩
theorem VN{bs:List String}{gs:List (Str×Gv)}{fs:List Fi}{lv:Nat}{N ps:List Str}{x:Str}{st:Stmt}{b:B}{f:Addr}{fd:FuncData}(h:gJ P w K mg base fs t)(hb:∀x∈bs,mg (Str.ofString x)=none)(hg:GV K mg va gs){df:Option Int}(Df:yU K mg x st ps df f fd)(k:kF ⟨bs,gs,fs⟩ lv N ps st b=true) :
  jT P w K mg base ⟨x,ps.length,lv+1,none,df⟩ (.p (fn N.length (eB t b))):=by
 refine⟨rfl,f,fd,ps,?_,Df.mg,Df.fn.kp,Df.bd,Df.yJ⟩
 refine Df.fn.ok (xP k) (fun vs H Q E h=>h.1) (fun bq A outer s H vs Q E hr q=>?_)
 obtain⟨ts,p1,p2⟩:=sB (t:=t) (va:=va) (K:=K) b (cR k).2
 exact⟨ts,(p1 _ (ctx h hb hg k hr)).go,F5 p2 q⟩
theorem VP{bs:List String}{gs:List (Str×Gv)}{fs:List Fi}{lv:Nat}{N ps:List Str}{x:Str}{st:Stmt}{b:B}{f:Addr}{fd:FuncData}(io:List Nat)(hn:io≠[])(h:gJ P w K mg base fs t)(hb:∀x∈bs,mg (Str.ofString x)=none)(hg:GV K mg va gs){df:Option Int}(Df:yU K mg x st ps df f fd)(k:kF ⟨bs,gs,fs⟩ lv N ps st b=true) :
  jT P w K mg base ⟨x,ps.length,lv+1,some io,df⟩ (.io io (jt N.length io (eB t b))):=by
 refine⟨⟨rfl,hn⟩,f,fd,ps,?_,Df.mg,Df.fn.kp,Df.bd,Df.yJ⟩
 refine Df.fn.ok (xP k) (fun vs H Q E h=>h.1) (fun bq A outer s H vs Q E hr q=>?_)
 obtain⟨ts,p1,p2⟩:=sB (t:=t) (va:=va) (K:=K) b (cR k).2
 exact⟨ts,(p1 _ (ctx h hb hg k hr)).go,NZ p2 q⟩
theorem VQ{bs:List String}{gs:List (Str×Gv)}{fs:List Fi}{lv:Nat}{N ps:List Str}{x:Str}{st:Stmt}{b:B}{f:Addr}{fd:FuncData}(h:gJ P w K mg base fs t)(hb:∀x∈bs,mg (Str.ofString x)=none)(hg:GV K mg va gs){df:Option Int}(Df:yU K mg x st ps df f fd)(k:kF ⟨bs,gs,fs⟩ lv N ps st b=true) :
  jT P w K mg base ⟨x,ps.length,lv+1,some [],df⟩ (.oo (Bn N.length (eB t b))):=by
 refine⟨rfl,f,fd,ps,?_,Df.mg,Df.fn.kp,Df.bd,Df.yJ⟩
 refine Df.fn.ok (xP k) (fun vs H Q E h=>h.1) (fun bq A outer s H vs Q E hr q=>?_)
 obtain⟨ts,p1,p2⟩:=sB (t:=t) (va:=va) (K:=K) b (cR k).2
 exact⟨ts,(p1 _ (ctx h hb hg k hr)).go,N3 p2 q⟩
end
structure Dd where
 nm:Str
 st:Stmt
 ps:List Str
 N:List Str
 lv:Nat
 io:Option (List Nat)
 b:B
 df:Option Int:=none
noncomputable def ud(t:List FT)(d:Dd):FT:=match d.io with
 |none=>.p (fn d.N.length (eB t d.b))
 |some []=>.oo (Bn d.N.length (eB t d.b))
 |some (i::io)=>.io (i::io) (jt d.N.length (i::io) (eB t d.b))
noncomputable def Br(d:Dd):Fi:=⟨d.nm,d.ps.length,d.lv+1,d.io,d.df⟩
noncomputable def tab:List Dd→List FT
 |[]=>[]
 |d::ds=>ud (tab ds) d::tab ds
noncomputable def xa(bs:List String)(gs:List (Str×Gv)):List Dd→Bool
 |[]=>true
 |d::ds=>kF ⟨bs,gs,ds.map Br⟩ d.lv d.N d.ps d.st d.b&&xa bs gs ds
def BA(d:Str)(s:Stmt)(ps:List Str):Prop:=∀(kV doc pm:Value) (an:Option Addr) (bq ct:Value) (us:List Value),us.length=ps.length→bindArgs (PySem.W.fnOf d d (eE s) (dn s) (bP s) .none kV doc pm an bq ct) ⟨us,[]⟩=pure (ps.zip us)
theorem yV{d:Str}{s:Stmt}{p0:Str}(h:∀k o p n c t u0,bindArgs (PySem.W.fnOf d d (eE s) (dn s) (bP s) .none k o p n c t) ⟨[u0],[]⟩=pure (List.zip [p0] [u0])):BA d s [p0]:=by
 intro _ _ _ _ _ _ us hl
 obtain _|⟨_,us⟩:=us
 ·cases hl
 obtain _|_:=us
 ·exact h _ _ _ _ _ _ _
 ·simp at hl
theorem pL{d:Str}{s:Stmt}{p0 p1:Str}(h:∀k o p n c t u0 u1,bindArgs (PySem.W.fnOf d d (eE s) (dn s) (bP s) .none k o p n c t) ⟨[u0,u1],[]⟩=pure (List.zip [p0,p1] [u0,u1])):BA d s [p0,p1]:=by
 intro _ _ _ _ _ _ us hl
 obtain _|⟨_,us⟩:=us
 ·cases hl
 obtain _|⟨_,us⟩:=us
 ·cases hl
 obtain _|_:=us
 ·exact h _ _ _ _ _ _ _ _
 ·simp at hl
theorem rO{d:Str}{s:Stmt}{p0 p1 p2:Str}(h:∀k o p n c t u0 u1 u2,bindArgs (PySem.W.fnOf d d (eE s) (dn s) (bP s) .none k o p n c t) ⟨[u0,u1,u2],[]⟩=pure (List.zip [p0,p1,p2] [u0,u1,u2])):BA d s [p0,p1,p2]:=by
 intro _ _ _ _ _ _ us hl
 obtain _|⟨_,us⟩:=us
 ·cases hl
 obtain _|⟨_,us⟩:=us
 ·cases hl
 obtain _|⟨_,us⟩:=us
 ·cases hl
 obtain _|_:=us
 ·exact h _ _ _ _ _ _ _ _ _
 ·simp at hl
theorem Dt{d:Str}{s:Stmt}{p0 p1 p2 p3:Str}(h:∀k o p n c t u0 u1 u2 u3,bindArgs (PySem.W.fnOf d d (eE s) (dn s) (bP s) .none k o p n c t) ⟨[u0,u1,u2,u3],[]⟩=pure (List.zip [p0,p1,p2,p3] [u0,u1,u2,u3])):BA d s [p0,p1,p2,p3]:=by
 intro _ _ _ _ _ _ us hl
 obtain _|⟨_,us⟩:=us
 ·cases hl
 obtain _|⟨_,us⟩:=us
 ·cases hl
 obtain _|⟨_,us⟩:=us
 ·cases hl
 obtain _|⟨_,us⟩:=us
 ·cases hl
 obtain _|_:=us
 ·exact h _ _ _ _ _ _ _ _ _ _
 ·simp at hl
def Du(d:Str)(s:Stmt)(ps:List Str)(n:Int):Prop:=∀(K:PySem.W.Frag) (a:Addr) (tk:Tok) (o:Value) (p:Option Addr) (k:Nat) (sl:Array (Option Value)) (kV doc pm:Value) (an:Option Addr) (bq ct:Value),K.lookup a=some ⟨o,p,.seq #[.int n tk] k,sl⟩ →
 Binds K (PySem.W.fnOf d d (eE s) (dn s) (bP s) (.ref a) kV doc pm an bq ct) ps []∧Binds K (PySem.W.fnOf d d (eE s) (dn s) (bP s) (.ref a) kV doc pm an bq ct) ps [.int n tk]
theorem W4{d:Str}{s:Stmt}{p0 p1 p2:Str}{n:Int}(h3:∀(K:PySem.W.Frag) (a:Addr) (tk:Tok) (o:Value) (p:Option Addr) (k:Nat) (sl:Array (Option Value)) (kV doc pm:Value) (an:Option Addr) (bq ct:Value) (e:K.lookup a=some ⟨o,p,.seq #[.int n tk] k,sl⟩) (h:Shared) (X:K.In h.heap) (u v w:Value),BindsTo h (PySem.W.fnOf d d (eE s) (dn s) (bP s) (.ref a) kV doc pm an bq ct) ⟨[u,v,w],[]⟩ [(p0,u),(p1,v),(p2,w)])
  (h2:∀(K:PySem.W.Frag) (a:Addr) (tk:Tok) (o:Value) (p:Option Addr) (k:Nat) (sl:Array (Option Value)) (kV doc pm:Value) (an:Option Addr) (bq ct:Value) (e:K.lookup a=some ⟨o,p,.seq #[.int n tk] k,sl⟩) (h:Shared) (X:K.In h.heap) (u v:Value),BindsTo h (PySem.W.fnOf d d (eE s) (dn s) (bP s) (.ref a) kV doc pm an bq ct) ⟨[u,v],[]⟩ [(p0,u),(p1,v),(p2,.int n tk)]):Du d s [p0,p1,p2] n:=by
 intro K a tk o p k sl kV doc pm an bq ct e
 refine⟨fun h us X hl=>?_,fun h us X hl=>?_⟩
 ·obtain _|⟨u,_|⟨v,_|⟨w,_|_⟩⟩⟩:=us<;>first|exact h3 K a tk o p k sl kV doc pm an bq ct e h X _ _ _|simp at hl
 ·obtain _|⟨u,_|⟨v,_|_⟩⟩:=us<;>first|exact h2 K a tk o p k sl kV doc pm an bq ct e h X _ _|simp at hl
noncomputable def Ly(d:Str)(s:Stmt)(ps:List Str):Option Int→Prop
 |none=>BA d s ps
 |some n=>Du d s ps n
noncomputable def yW:List Dd→Prop
 |[]=>True
 |d::ds=>Ly d.nm d.st d.ps d.df∧yW ds
def Lz(K:PySem.W.Frag)(d:Str)(s:Stmt)(dV:Value):Prop:=∃(f:Addr) (oc:Value) (od:Option Addr) (kV dc pm:Value) (an:Option Addr) (cd ct:Value) (sl:Array (Option Value)),
 PySem.W.nsIn K mainGlobals d=some (some (.ref f))∧K.lookup f=some ⟨oc,od,.func (PySem.W.fnOf d d (eE s) (dn s) (bP s) dV kV dc pm an cd ct),sl⟩∧PySem.W.codeIn K cd d=true∧PySem.W.keepIn K (.ref f)=true
noncomputable def DE(K:PySem.W.Frag)(d:Str)(s:Stmt):Option Int→Prop
 |none=>Lz K d s .none
 |some n=>∃(a:Addr) (tk:Tok) (o:Value) (p:Option Addr) (k:Nat) (sl:Array (Option Value)),Lz K d s (.ref a)∧K.lookup a=some ⟨o,p,.seq #[.int n tk] k,sl⟩
theorem JW{K:PySem.W.Frag}{d:Str}{s:Stmt}{f:Addr}{oc:Value}{od:Option Addr}{kV dc pm:Value}{an:Option Addr}{cd ct:Value}{sl:Array (Option Value)}(a:PySem.W.nsIn K mainGlobals d=some (some (.ref f)))(l:K.lookup f=some ⟨oc,od,.func (PySem.W.fnOf d d (eE s) (dn s) (bP s) .none kV dc pm an cd ct),sl⟩)(c:PySem.W.codeIn K cd d=true)(k:PySem.W.keepIn K (.ref f)=true):DE K d s none :=
 ⟨f,oc,od,kV,dc,pm,an,cd,ct,sl,a,l,c,k⟩
theorem VR{K:PySem.W.Frag}{d:Str}{s:Stmt}{n:Int}{f dA:Addr}{oc oD:Value}{od pD:Option Addr}{kV dc pm:Value}{an:Option Addr}{cd ct:Value}{sl sD:Array (Option Value)}{tk:Tok}{nD:Nat}(a:PySem.W.nsIn K mainGlobals d=some (some (.ref f)))(l:K.lookup f=some ⟨oc,od,.func (PySem.W.fnOf d d (eE s) (dn s) (bP s) (.ref dA) kV dc pm an cd ct),sl⟩)(e:K.lookup dA=some ⟨oD,pD,.seq #[.int n tk] nD,sD⟩)(c:PySem.W.codeIn K cd d=true)(k:PySem.W.keepIn K (.ref f)=true):DE K d s (some n) :=
 ⟨dA,tk,oD,pD,nD,sD,⟨f,oc,od,kV,dc,pm,an,cd,ct,sl,a,l,c,k⟩,e⟩
noncomputable def yX(K:PySem.W.Frag):List Dd→Prop
 |[]=>True
 |d::ds=>DE K d.nm d.st d.df∧yX K ds
noncomputable def yZ(K:PySem.W.Frag):List String→Prop
 |[]=>True
 |b::bs=>PySem.W.nsIn K mainGlobals (Str.ofString b)=some none∧yZ K bs
noncomputable def GE(K:PySem.W.Frag)(x:Str):Gv→Prop
 |.s y=>∃tk,PySem.W.nsIn K mainGlobals x=some (some (.str y tk))
 |.t l=>∃(a:Addr) (it:Array Value) (n:Nat) (sl:Array (Option Value)),PySem.W.nsIn K mainGlobals x=some (some (.ref a))∧K.lookup a=some ⟨.type "tuple",none,.seq it n,sl⟩∧it.toList.map qC=l.map (fun y=>some (V.str y))∧4≤l.length∧l.length≤1000
noncomputable def y0(K:PySem.W.Frag):List (Str×Gv)→Prop
 |[]=>True
 |g::gs=>GE K g.1 g.2∧y0 K gs
section
variable {P:Program}{w:World}{K:PySem.W.Frag}{mg:Str→Option Value}{base:Heap}
theorem HB{h:Heap}(X:K.In h)(G:h.Ns mainGlobals mg):∀{bs:List String},yZ K bs→∀x∈bs,mg (Str.ofString x)=none
 |[],_,_,m=>nomatch m
 |b::bs,q,x,m=>by
  rcases fK.mp m with rfl|m
  ·exact PySem.W.mg_none_of X G q.1
  ·exact HB X G q.2 x m
theorem IQ{h:Heap}(X:K.In h)(G:h.Ns mainGlobals mg):∀{gs:List (Str×Gv)},y0 K gs→∃va,GV K mg va gs
  |[],_=>⟨[],fun i g e=>by simp at e⟩
  | (x,g)::gs,q=>by
    obtain⟨va,r⟩:=IQ X G q.2
    have one:∃v u,mg x=some u∧RelV v u∧JT K (tC v) (jC g.d):=by
      cases g with
      |s y =>
        obtain⟨tk,e⟩:=q.1
        exact⟨.str y,_,uv X G e,⟨_,rfl⟩,qE rfl⟩
      |t l =>
        obtain⟨a,it,n,sl,e,lk,m,hl⟩:=q.1
        exact⟨.ref a,_,uv X G e,rfl,Um (Rr lk m hl) fun _ _=>Ek l⟩
    obtain⟨v,u,h1,h2,h3⟩:=one
    refine⟨v::va,fun i g' e=>?_⟩
    cases i with
    |zero=>cases e;exact⟨v,u,rfl,h1,h2,h3⟩
    |succ i=>exact r i g' e
theorem VW{h:Heap}{d:Str}{s:Stmt}{ps:List Str}{df:Option Int}(X:K.In h)(G:h.Ns mainGlobals mg)(e:DE K d s df)(b:Ly d s ps df):∃f fd,yU K mg d s ps df f fd:=by
 cases df with
 |none =>
  obtain⟨f,oc,od,kV,dc,pm,an,cd,ct,sl,q1,q2,q3,q4⟩:=e
  exact⟨f,_,uv X G q1,⟨⟨_,_,_,_,_,_,_,_,_,_,rfl,q2,q3⟩,q4⟩,(GX q2 q3 q4).binds b,fun n z=>nomatch z⟩
 |some n =>
  obtain⟨a,tk,o,p,k,sD,⟨f,oc,od,kV,dc,pm,an,cd,ct,sl,q1,q2,q3,q4⟩,e⟩:=e
  have z:=b K a tk o p k sD kV dc pm an cd ct e
  exact⟨f,_,uv X G q1,⟨⟨_,_,_,_,_,_,_,_,_,_,rfl,q2,q3⟩,q4⟩,z.1,fun m w=>by cases w;exact⟨tk,z.2⟩⟩
theorem IU{h:Heap}{bs:List String}{gs:List (Str×Gv)}{va:List V}(X:K.In h)(G:h.Ns mainGlobals mg)(hb:∀x∈bs,mg (Str.ofString x)=none)(hg:GV K mg va gs):∀{ds:List Dd},yX K ds→yW ds→xa bs gs ds=true→gJ P w K mg base (ds.map Br) (tab ds)
 |[],_,_,_=>gJ.nil
 |d::ds,q,b,k=>by
  obtain⟨k1,k2⟩:=cR k
  have r:=IU X G hb hg q.2 b.2 k2
  obtain⟨f,fd,D⟩:=VW X G q.1 b.1
  refine gJ.cons r ?_
  obtain⟨nm,st,ps,N,lv,io,bd,df⟩:=d
  cases io with
  |none=>exact VN r hb hg D k1
  |some io=>cases io with
   |nil=>exact VQ r hb hg D k1
   |cons i io=>exact VP (i::io) (List.cons_ne_nil _ _) r hb hg D k1
theorem eO{d:Dd}{ds:List Dd}{t:List FT}{g:Ev→Option Fl}{F:List D→Option (M×D)}(e:tab ds=t)(h:d.io=none)(q:eB t d.b=g)(r:fn d.N.length g=F):tab (d::ds)=.p F::t:=by
 subst e q r
 show ud (tab ds) d::tab ds=_
 unfold ud
 rw[h]
theorem Ap{d:Dd}{ds:List Dd}{t:List FT}{g:Ev→Option Fl}{i:Nat}{io:List Nat}{F:List D→Option (M×D×List D)}(e:tab ds=t)(h:d.io=some (i::io))(q:eB t d.b=g)(r:jt d.N.length (i::io) g=F):tab (d::ds)=.io (i::io) F::t:=by
 subst e q r
 show ud (tab ds) d::tab ds=_
 unfold ud
 rw[h]
theorem VX {h:Heap}{bs:List String}{gs:List (Str×Gv)}{ds:List Dd}{st:Stmt}{N:List Str}{lv:Nat}{b:B}{t:List FT}{F:List D→Option (M×D)}{x:Str}{fa:Addr} (X:K.In h) (G:h.Ns mainGlobals mg) (Dv:mg "law" = some (.ref fa)) (hb:yZ K bs) (hg:y0 K gs) (q:yX K (⟨"law",st,[x],N,lv,none,b,none⟩::ds)) (ba:yW (⟨"law",st,[x],N,lv,none,b,none⟩::ds)) (k:xa bs gs (⟨"law",st,[x],N,lv,none,b,none⟩::ds)=true)
  (e:tab (⟨"law",st,[x],N,lv,none,b,none⟩::ds)=.p F::t) (hs:∀(kV doc pm:Value) (an:Option Addr) (bq ct:Value) (s:Shared) (v:Value),BindsTo s (PySem.W.fnOf "law" "law" (eE st) (dn st) (bP st) .none kV doc pm an bq ct) ⟨[v],[]⟩ [(x,v)]) :
  ∃fd:FuncData,(∀(s:Shared) (v:Value),BindsTo s fd ⟨[v],[]⟩ [(x,v)])∧∀base:Heap,K.In base→base.Ns mainGlobals mg→ku P w K mg base kZ (lv+1) fa fd [x] (k7 K 1 F):=by
 obtain⟨k1,k2⟩:=cR k
 have hb:=HB X G hb
 obtain⟨va,hg⟩:=IQ X G hg
 obtain⟨⟨f,oc,od,kV,dc,pm,an,cd,ct,sl,q1,q2,q3,q4⟩,qs⟩:=q
 have ef:=Dv.symm.trans (uv X G q1)
 cases ef
 refine⟨_,fun s v=>hs kV dc pm an cd ct s v,fun base _ _=>?_⟩
 have r:gJ P w K mg base (ds.map Br) (tab ds):=IU X G hb hg qs ba.2 k2
 have ht:fn N.length (eB (tab ds) b)=F:=by
  have e:FT.p (fn N.length (eB (tab ds) b))::tab ds=.p F::t:=e
  cases e;rfl
 have fk:=GX (x := "law") (qual := "law") (st:=st) q2 q3 q4
 refine fk.ok (xP k1) (fun vs H Q E h=>h.1) (fun bq A outer s H vs Q E hr q=>?_)
 obtain⟨ts,p1,p2⟩:=sB (t:=tab ds) (va:=va) (K:=K) b (cR k1).2
 rw[←ht]at q
 exact⟨ts,(p1 _ (ctx r hb hg k1 hr)).go,F5 p2 q⟩
end
end C
namespace b6
open PySem PySem.Spec L2 My J
noncomputable def top(i:Nat):PySem.Stmt:=PySem.Challenge.pw_lazyhoist_k21_whole_runs_row_by_row.main.body.getD i (.Pass ⟨0,0,0,0⟩)
noncomputable def bs:List String:=["abs", "all", "any", "bool", "dict", "enumerate", "int", "isinstance", "len", "list", "range", "str", "tuple"]
noncomputable def gs:List (Str×C.Gv):=[]
noncomputable def t0:List C.FT:=[]
noncomputable def LC:List C.Dd:=[]
theorem e0:C.tab LC=t0:=rfl
noncomputable def D7:Ev→Option Fl :=
 (aw (aH 2 (ae aj (jV 0) (jV 1)))
 (aw (aL (jB (ae aQ (ae aj (jV 2) (jC (.int 0))) (jC (.str "end"))))
  (aP (bJ ah))
  a8)
 (aw (aL (jB (ae aQ (ae aj (jV 2) (jC (.int 0))) (jC (.str "go"))))
  (aP (bJ (ag (ae aj (jV 2) (jC (.int 1))) ah)))
  a8)
 (aw (aL (jB (ae aQ (ae aj (jV 2) (jC (.int 0))) (jC (.str "part"))))
  (aP (bJ (ag (ae aW (jV 1) (jC (.int 1))) (ag (ae aj (jV 2) (jC (.int 2))) ah))))
  a8)
 (aP (bJ (ag (ae aW (jV 1) (jC (.int 1))) ah)))))))
noncomputable def pQ:List D→Option (M×D):=fn 3 D7
noncomputable def d1:C.Dd:=⟨"followers",top 1,["program", "n"],["program", "n", "row"],0,none,(.c (.l (.st 2 (.ix (.v 0) (.v 1)))) (.c (.ie (.c .eq (.ix (.v 2) (.ki 0)) (.ks "end")) (.o (.l (.rt (.li .n)))) .n) (.c (.ie (.c .eq (.ix (.v 2) (.ki 0)) (.ks "go")) (.o (.l (.rt (.li (.c (.ix (.v 2) (.ki 1)) .n))))) .n) (.c (.ie (.c .eq (.ix (.v 2) (.ki 0)) (.ks "part")) (.o (.l (.rt (.li (.c (.bo .add (.v 1) (.ki 1)) (.c (.ix (.v 2) (.ki 2)) .n)))))) .n) (.o (.l (.rt (.li (.c (.bo .add (.v 1) (.ki 1)) .n))))))))),none⟩
noncomputable def LD:List C.Dd:=d1::LC
noncomputable def t1:List C.FT:=.p pQ::t0
theorem e1:C.tab LD=t1:=C.eO e0 rfl rfl rfl
noncomputable def En:Ev→Option Fl :=
 (aw (aL (jB (ae aQ (jV 0) (jC (.str "+"))))
  (aP (ae aY (ae aW (jV 1) (jV 2)) (ae oI (jC (.int 2)) (jC (.int 64)))))
  a8)
 (aw (aL (jB (ae aQ (jV 0) (jC (.str "-"))))
  (aP (ae aY (ae fj (jV 1) (jV 2)) (ae oI (jC (.int 2)) (jC (.int 64)))))
  a8)
 (aw (aL (jB (ae aQ (jV 0) (jC (.str "*"))))
  (aP (ae aY (ae c6 (jV 1) (jV 2)) (ae oI (jC (.int 2)) (jC (.int 64)))))
  a8)
 (aw (aL (jB (ae aQ (jV 0) (jC (.str "&"))))
  (aP (ae ou (jV 1) (jV 2)))
  a8)
 (aw (aL (jB (ae aQ (jV 0) (jC (.str "|"))))
  (aP (ae oM (jV 1) (jV 2)))
  a8)
 (aw (aL (jB (ae aQ (jV 0) (jC (.str "^"))))
  (aP (ae oy (jV 1) (jV 2)))
  a8)
 (aw (aL (jB (ae aQ (jV 0) (jC (.str "<"))))
  (aP (qF (jB (ae dY (jV 1) (jV 2))) (jC (.int 1)) (jC (.int 0))))
  a8)
 (aP (qF (jB (ae aQ (jV 1) (jV 2))) (jC (.int 1)) (jC (.int 0)))))))))))
noncomputable def pU:List D→Option (M×D):=fn 3 En
noncomputable def d2:C.Dd:=⟨"reckoned",top 3,["s", "a", "b"],["s", "a", "b"],0,none,(.c (.ie (.c .eq (.v 0) (.ks "+")) (.o (.l (.rt (.bo .mod (.bo .add (.v 1) (.v 2)) (.bo .pow (.ki 2) (.ki 64)))))) .n) (.c (.ie (.c .eq (.v 0) (.ks "-")) (.o (.l (.rt (.bo .mod (.bo .sub (.v 1) (.v 2)) (.bo .pow (.ki 2) (.ki 64)))))) .n) (.c (.ie (.c .eq (.v 0) (.ks "*")) (.o (.l (.rt (.bo .mod (.bo .mul (.v 1) (.v 2)) (.bo .pow (.ki 2) (.ki 64)))))) .n) (.c (.ie (.c .eq (.v 0) (.ks "&")) (.o (.l (.rt (.bo .band (.v 1) (.v 2))))) .n) (.c (.ie (.c .eq (.v 0) (.ks "|")) (.o (.l (.rt (.bo .bor (.v 1) (.v 2))))) .n) (.c (.ie (.c .eq (.v 0) (.ks "^")) (.o (.l (.rt (.bo .bxor (.v 1) (.v 2))))) .n) (.c (.ie (.c .eq (.v 0) (.ks "<")) (.o (.l (.rt (.ie (.c .lt (.v 1) (.v 2)) (.ki 1) (.ki 0))))) .n) (.o (.l (.rt (.ie (.c .eq (.v 1) (.v 2)) (.ki 1) (.ki 0)))))))))))),none⟩
noncomputable def LJ:List C.Dd:=d2::LD
noncomputable def t2:List C.FT:=.p pU::t1
theorem e2:C.tab LJ=t2:=C.eO e1 rfl rfl rfl
noncomputable def Eo:Ev→Option Fl :=
 (aw (aL (jB (aD eR (ag (jV 0) (ag (jC (.ty "str")) ah))))
  (aP (j5 (jV 1) (jV 0) (jC (.int 0))))
  a8)
 (aP (jV 0)))
noncomputable def gD:List D→Option (M×D):=fn 2 Eo
noncomputable def d3:C.Dd:=⟨"worth_of",top 8,["operand", "worths"],["operand", "worths"],0,none,(.c (.ie (.b (.fb .iX (.c (.v 0) (.c (.ty "str") .n)))) (.o (.l (.rt (.g2 (.v 1) (.v 0) (.ki 0))))) .n) (.o (.l (.rt (.v 0))))),none⟩
noncomputable def LK:List C.Dd:=d3::LJ
noncomputable def t3:List C.FT:=.p gD::t2
theorem e3:C.tab LK=t3:=C.eO e2 rfl rfl rfl
noncomputable def Ft:Ev→Option Fl :=
 (aw (aL (jB (ae aQ (ae aj (jV 0) (jC (.int 0))) (jC (.str "reckon"))))
  (fH 1 (ae aj (jV 0) (jC (.int 1))) (aI pU (ag (ae aj (jV 0) (jC (.int 2))) (ag (aI gD (ag (ae aj (jV 0) (jC (.int 3))) (ag (jV 1) ah))) (ag (aI gD (ag (ae aj (jV 0) (jC (.int 4))) (ag (jV 1) ah))) ah)))))
  a8)
 (aw (aL (jB (ae aQ (ae aj (jV 0) (jC (.int 0))) (jC (.str "copy"))))
  (fH 1 (ae aj (jV 0) (jC (.int 1))) (aI gD (ag (ae aj (jV 0) (jC (.int 2))) (ag (jV 1) ah))))
  a8)
 (aL (jB (ae aQ (ae aj (jV 0) (jC (.int 0))) (jC (.str "say"))))
  (bN 2 (aI gD (ag (ae aj (jV 0) (jC (.int 1))) (ag (jV 1) ah))))
  a8)))
noncomputable def pW:List D→Option (M×D×List D):=jt 3 [1,2] Ft
noncomputable def d4:C.Dd:=⟨"do_row",top 6,["row", "worths", "said"],["row", "worths", "said"],1,some [1,2],(.c (.ie (.c .eq (.ix (.v 0) (.ki 0)) (.ks "reckon")) (.o (.l (.dp 1 (.ix (.v 0) (.ki 1)) (.ca 1 (.c (.ix (.v 0) (.ki 2)) (.c (.ca 0 (.c (.ix (.v 0) (.ki 3)) (.c (.v 1) .n))) (.c (.ca 0 (.c (.ix (.v 0) (.ki 4)) (.c (.v 1) .n))) .n))))))) .n) (.c (.ie (.c .eq (.ix (.v 0) (.ki 0)) (.ks "copy")) (.o (.l (.dp 1 (.ix (.v 0) (.ki 1)) (.ca 0 (.c (.ix (.v 0) (.ki 2)) (.c (.v 1) .n)))))) .n) (.o (.ie (.c .eq (.ix (.v 0) (.ki 0)) (.ks "say")) (.o (.l (.ap 2 (.ca 0 (.c (.ix (.v 0) (.ki 1)) (.c (.v 1) .n)))))) .n)))),none⟩
noncomputable def LN:List C.Dd:=d4::LK
noncomputable def t4:List C.FT:=.io [1,2] pW::t3
theorem e4:C.tab LN=t4:=C.Ap e3 rfl rfl rfl
noncomputable def DW:Ev→Option Fl :=
 (aw (aH 3 (ae aj (jV 0) (jV 1)))
 (aw (aH 4 (aI pQ (ag (jV 0) (ag (jV 1) ah))))
 (aw (aL (bY (jB (ae aQ (ae aj (jV 3) (jC (.int 0))) (jC (.str "part")))) (jB (ae bV (aI gD (ag (ae aj (jV 3) (jC (.int 1))) (ag (jV 2) ah))) (jC (.int 0)))))
  (aP (ae aj (jV 4) (jC (.int 1))))
  a8)
 (aP (ae aj (jV 4) (jC (.int 0)))))))
noncomputable def rS:List D→Option (M×D):=fn 5 DW
noncomputable def d5:C.Dd:=⟨"row_behind",top 7,["program", "n", "worths"],["program", "n", "worths", "row", "behind"],1,none,(.c (.l (.st 3 (.ix (.v 0) (.v 1)))) (.c (.l (.st 4 (.ca 3 (.c (.v 0) (.c (.v 1) .n))))) (.c (.ie (.an (.c .eq (.ix (.v 3) (.ki 0)) (.ks "part")) (.c .ne (.ca 1 (.c (.ix (.v 3) (.ki 1)) (.c (.v 2) .n))) (.ki 0))) (.o (.l (.rt (.ix (.v 4) (.ki 1))))) .n) (.o (.l (.rt (.ix (.v 4) (.ki 0)))))))),none⟩
noncomputable def LQ:List C.Dd:=d5::LN
noncomputable def t5:List C.FT:=.p rS::t4
theorem e5:C.tab LQ=t5:=C.eO e4 rfl rfl rfl
noncomputable def pO:Ev→Option Fl :=
 (aL (jB (ae bV (jV 3) (jC (.int 0))))
  (fH 1 (jV 2) (jV 3))
  a8)
noncomputable def DN:Ev→Option Fl :=
 (aw (aH 1 sO)
 (aw (jo 0 (wX 0 (gT 2 (b8 (gN 2) (b8 (gN 3) fG)))
  pO))
 (aP (jV 1))))
noncomputable def n6:List D→Option (M×D):=fn 4 DN
noncomputable def d6:C.Dd:=⟨"without_noughts",top 9,["worths"],["worths", "told", "name", "worth"],0,none,(.c (.l (.st 1 .dK)) (.c (.fz 0 (.fi 0 (.t 2 (.c (.n 2) (.c (.n 3) .n))) (.o (.ie (.c .ne (.v 3) (.ki 0)) (.o (.l (.dp 1 (.v 2) (.v 3)))) .n)))) (.o (.l (.rt (.v 1)))))),none⟩
noncomputable def LR:List C.Dd:=d6::LQ
noncomputable def t6:List C.FT:=.p n6::t5
theorem e6:C.tab LR=t6:=C.eO e5 rfl rfl rfl
noncomputable def jZ:Ev→Option Fl :=
 (aw (bN 5 (jV 6))
 (aw (aL (jB (ae aQ (ae aj (ae aj (jV 0) (jV 6)) (jC (.int 0))) (jC (.str "end"))))
  (qz (ag (jC (.str "end")) (ag (jV 4) (ag (aI n6 (ag (jV 3) ah)) (ag (jV 5) ah)))))
  a8)
 (aw (i7 [1,2] [3,4] [(1,3),(2,4)] pW (ag (ae aj (jV 0) (jV 6)) (ag (jV 3) (ag (jV 4) ah))))
 (aH 6 (aI rS (ag (jV 0) (ag (jV 6) (ag (jV 3) ah))))))))
noncomputable def j0:Ev→Option Bool :=
 (jB (ae dY (aD bI (ag (jV 5) ah)) (jV 2)))
noncomputable def IV:Ev→Option Fl :=
 (aw (aH 3 (aD gG (ag (jV 1) ah)))
 (aw (aH 4 (bJ ah))
 (aw (aH 5 (bJ ah))
 (aw (aH 6 (jC (.int 0)))
 (aw (oj j0
  jZ)
 (qz (ag (jC (.str "spent")) (ag (jV 4) (ag (aI n6 (ag (jV 3) ah)) (ag (jV 5) ah))))))))))
noncomputable def lL:List D→Option (M×D):=fn 7 IV
noncomputable def d7:C.Dd:=⟨"run",top 5,["program", "names", "most"],["program", "names", "most", "worths", "said", "way", "n"],2,none,(.c (.l (.st 3 (.fb .dict (.c (.v 1) .n)))) (.c (.l (.st 4 (.li .n))) (.c (.l (.st 5 (.li .n))) (.c (.l (.st 6 (.ki 0))) (.c (.wh (.c .lt (.fb .len (.c (.v 5) .n)) (.v 2)) (.c (.l (.ap 5 (.v 6))) (.c (.ie (.c .eq (.ix (.ix (.v 0) (.v 6)) (.ki 0)) (.ks "end")) (.o (.l (.rT (.c (.ks "end") (.c (.v 4) (.c (.ca 0 (.c (.v 3) .n)) (.c (.v 5) .n))))))) .n) (.c (.l (.iD 2 [3,4] (.c (.ix (.v 0) (.v 6)) (.c (.v 3) (.c (.v 4) .n))))) (.o (.l (.st 6 (.ca 1 (.c (.v 0) (.c (.v 6) (.c (.v 3) .n))))))))))) (.o (.l (.rT (.c (.ks "spent") (.c (.v 4) (.c (.ca 0 (.c (.v 3) .n)) (.c (.v 5) .n)))))))))))),some 1000⟩
noncomputable def LV:List C.Dd:=d7::LR
noncomputable def t7:List C.FT:=.p lL::t6
theorem e7:C.tab LV=t7:=C.eO e6 rfl rfl rfl
noncomputable def Ep:Ev→Option Fl :=
 (aw (aL (jB (ae dY (jV 1) (aD bI (ag (jV 0) ah))))
  (aP (ae aj (jV 0) (jV 1)))
  a8)
 (aw (aH 2 (aD bI (ag (jV 0) ah)))
 (aw (aL (jB (ae aQ (jV 2) (jC (.int 0))))
  (aP (ae c6 (jV 1) (jC (.int 7919))))
  a8)
 (aP (ae aW (ae c6 (ae aY (aD tW (ag (ae aj (jV 0) (ae aY (jV 1) (jV 2))) ah)) (jC (.int 1000003))) (ae aW (jV 1) (jC (.int 2)))) (ae c6 (jV 1) (jC (.int 7919))))))))
noncomputable def cY:List D→Option (M×D):=fn 3 Ep
noncomputable def d8:C.Dd:=⟨"_law_cell",top 11,["_law_script", "_law_k"],["_law_script", "_law_k", "_law_many"],0,none,(.c (.ie (.c .lt (.v 1) (.fb .len (.c (.v 0) .n))) (.o (.l (.rt (.ix (.v 0) (.v 1))))) .n) (.c (.l (.st 2 (.fb .len (.c (.v 0) .n)))) (.c (.ie (.c .eq (.v 2) (.ki 0)) (.o (.l (.rt (.bo .mul (.v 1) (.ki 7919))))) .n) (.o (.l (.rt (.bo .add (.bo .mul (.bo .mod (.fb .abs (.c (.ix (.v 0) (.bo .mod (.v 1) (.v 2))) .n)) (.ki 1000003)) (.bo .add (.v 1) (.ki 2))) (.bo .mul (.v 1) (.ki 7919))))))))),none⟩
noncomputable def LW:List C.Dd:=d8::LV
noncomputable def t8:List C.FT:=.p cY::t7
theorem e8:C.tab LW=t8:=C.eO e7 rfl rfl rfl
noncomputable def vx:Ev→Option Fl :=
 (aw (qe 5 (jV 4) (ae aj (jV 2) (ae aY (ae aW (ae bD (jV 0) (jC (.int 64))) (jV 7)) (jC (.int 26)))))
 (aw (aH 8 (yD uV qy (jC (.str "")) (ag (jV 5) ah)))
 (aw (aL (jB (ae (oN false) (jV 8) (ck (ag (jC (.str "say")) (ag (jC (.str "go")) (ag (jC (.str "part")) (ag (jC (.str "end")) ah)))))))
  (aH 8 (ae aW (jV 8) (jC (.str "0"))))
  a8)
 (bN 6 (jV 8)))))
noncomputable def D8:Ev→Option Fl :=
 (aw (aH 2 (jC (.str "abcdefghijklmnopqrstuvwxyz0123456789")))
 (aw (aH 3 (ae aW (jC (.int 1)) (ae aY (jV 0) (jC (.int 8)))))
 (aw (aH 4 (ae aY (ae bD (jV 0) (jC (.int 8))) (jV 3)))
 (aw (aH 5 (gF (iI (ag (jV 3) ah)) [2,0] ft (ae aj (jV 1) (ae aY (ae bD (jV 2) (ae aW (jC (.int 64)) (ae c6 (jC (.int 5)) (jV 0)))) (ae aj (bJ (ag (jC (.int 26)) (ag (jC (.int 36)) ah))) (aD c7 (ag (ae dN (jV 0) (jC (.int 0))) ah)))))))
 (aw (aH 6 (bJ ah))
 (aw (fq (iI (ag (jV 1) ah)) (gN 7)
  vx)
 (aP (jV 6))))))))
noncomputable def pR:List D→Option (M×D):=fn 9 D8
noncomputable def d9:C.Dd:=⟨"_law_names",top 12,["_law_cell_here", "_law_many"],["_law_cell_here", "_law_many", "_law_signs", "_law_size", "_law_spot", "_law_some", "_law_found", "_law_k", "_law_name"],0,none,(.c (.l (.st 2 (.ks "abcdefghijklmnopqrstuvwxyz0123456789"))) (.c (.l (.st 3 (.bo .add (.ki 1) (.bo .mod (.v 0) (.ki 8))))) (.c (.l (.st 4 (.bo .mod (.bo .div (.v 0) (.ki 8)) (.v 3)))) (.c (.l (.sc 5 (.r1 (.c (.v 3) .n)) [2,0] .y (.ix (.v 1) (.bo .mod (.bo .div (.v 2) (.bo .add (.ki 64) (.bo .mul (.ki 5) (.v 0)))) (.ix (.li (.c (.ki 26) (.c (.ki 36) .n))) (.fb .int (.c (.co .gt (.v 0) (.ki 0)) .n))))))) (.c (.l (.st 6 (.li .n))) (.c (.fo (.r1 (.c (.v 1) .n)) (.n 7) (.c (.l (.si 5 (.v 4) (.ix (.v 2) (.bo .mod (.bo .add (.bo .div (.v 0) (.ki 64)) (.v 7)) (.ki 26))))) (.c (.l (.st 8 (.ms .join (.ks "") (.c (.v 5) .n)))) (.c (.ie (.c .vi (.v 8) (.tu (.c (.ks "say") (.c (.ks "go") (.c (.ks "part") (.c (.ks "end") .n)))))) (.o (.l (.st 8 (.bo .add (.v 8) (.ks "0"))))) .n) (.o (.l (.ap 6 (.v 8)))))))) (.o (.l (.rt (.v 6)))))))))),none⟩
noncomputable def LX:List C.Dd:=d9::LW
noncomputable def t9:List C.FT:=.p pR::t8
theorem e9:C.tab LX=t9:=C.eO e8 rfl rfl rfl
noncomputable def vt:Ev→Option Fl :=
 (aw (bN 3 (ae aY (jV 2) (jV 4)))
 (aH 2 (ae bD (jV 2) (jV 4))))
noncomputable def DX:Ev→Option Fl :=
 (aw (aH 2 (ae aY (ae c6 (jV 0) (jC (.int 48271))) (jC (.int 2147483647))))
 (aw (aH 3 (bJ ah))
 (aw (jo 1 (fq (gn (jV 1)) (gN 4)
  vt))
 (aP (jV 3)))))
noncomputable def vA:List D→Option (M×D):=fn 5 DX
noncomputable def y3:C.Dd:=⟨"_law_digits",top 13,["_law_cell_here", "_law_sizes"],["_law_cell_here", "_law_sizes", "_law_number", "_law_found", "_law_size"],0,none,(.c (.l (.st 2 (.bo .mod (.bo .mul (.v 0) (.ki 48271)) (.ki 2147483647)))) (.c (.l (.st 3 (.li .n))) (.c (.fz 1 (.fo (.l (.v 1)) (.n 4) (.c (.l (.ap 3 (.bo .mod (.v 2) (.v 4)))) (.o (.l (.st 2 (.bo .div (.v 2) (.v 4)))))))) (.o (.l (.rt (.v 3))))))),none⟩
noncomputable def JX:List C.Dd:=y3::LX
noncomputable def LY:List C.FT:=.p vA::t9
theorem Yn:C.tab JX=LY:=C.eO e9 rfl rfl rfl
noncomputable def zm:Ev→Option Fl :=
 (aw (aL (jB (ae dY (jV 0) (aD bI (ag (jV 2) ah))))
  (aP (ae aj (jV 2) (jV 0)))
  a8)
 (aw (aL (jB (ae aQ (jV 0) (aD bI (ag (jV 2) ah))))
  (aP (ae aY (jV 1) (jC (.int 3))))
  a8)
 (aw (aL (jB (ae aQ (ae aY (jV 1) (jC (.int 3))) (jC (.int 0))))
  (aP (ae fj (jC (.int 18446744073709551615)) (ae aY (ae bD (jV 1) (jC (.int 3))) (jC (.int 9)))))
  a8)
 (aP (ae aY (ae c6 (jV 1) (jC (.int 48271))) (jC (.int 18446744073709551616)))))))
noncomputable def iY:List D→Option (M×D):=fn 3 zm
noncomputable def y4:C.Dd:=⟨"_law_operand",top 14,["_law_digit", "_law_cell_here", "_law_names_here"],["_law_digit", "_law_cell_here", "_law_names_here"],0,none,(.c (.ie (.c .lt (.v 0) (.fb .len (.c (.v 2) .n))) (.o (.l (.rt (.ix (.v 2) (.v 0))))) .n) (.c (.ie (.c .eq (.v 0) (.fb .len (.c (.v 2) .n))) (.o (.l (.rt (.bo .mod (.v 1) (.ki 3))))) .n) (.c (.ie (.c .eq (.bo .mod (.v 1) (.ki 3)) (.ki 0)) (.o (.l (.rt (.bo .sub (.ki 18446744073709551615) (.bo .mod (.bo .div (.v 1) (.ki 3)) (.ki 9)))))) .n) (.o (.l (.rt (.bo .mod (.bo .mul (.v 1) (.ki 48271)) (.ki 18446744073709551616)))))))),none⟩
noncomputable def JY:List C.Dd:=y4::JX
noncomputable def LZ:List C.FT:=.p iY::LY
theorem Yo:C.tab JY=LZ:=C.eO Yn rfl rfl rfl
noncomputable def EV:Ev→Option Fl :=
 (aw (aH 2 (ae aW (aD bI (ag (jV 1) ah)) (jC (.int 2))))
 (aw (xD (gL 5 (b8 (gN 3) (b8 (gN 4) (b8 (gN 5) (b8 (gN 6) (b8 (gN 7) fG)))))) (aI vA (ag (jV 0) (ag (bJ (ag (jC (.int 12)) (ag (aD bI (ag (jV 1) ah)) (ag (jC (.int 8)) (ag (jV 2) (ag (jV 2) ah)))))) ah))))
 (aw (aH 6 (aI iY (ag (jV 6) (ag (jV 0) (ag (jV 1) ah)))))
 (aw (aL (jB (ae dY (jV 3) (jC (.int 7))))
  (aP (ck (ag (jC (.str "reckon")) (ag (ae aj (jV 1) (jV 4)) (ag (ae aj (jC (.str "+-*&|^<=")) (jV 5)) (ag (jV 6) (ag (aI iY (ag (jV 7) (ag (ae bD (jV 0) (jC (.int 7))) (ag (jV 1) ah)))) ah)))))))
  a8)
 (aw (aL (jB (ae dY (jV 3) (jC (.int 9))))
  (aP (ck (ag (jC (.str "copy")) (ag (ae aj (jV 1) (jV 4)) (ag (jV 6) ah)))))
  a8)
 (aw (aL (jB (ae aQ (jV 3) (jC (.int 9))))
  (aP (ck (ag (jC (.str "say")) (ag (jV 6) ah))))
  a8)
 (aP (ck (ag (jC (.str "part")) (ag (jV 6) (ag (ae aY (ae bD (jV 0) (jC (.int 5))) (jC (.int 1000))) ah)))))))))))
noncomputable def r6:List D→Option (M×D):=fn 8 EV
noncomputable def y6:C.Dd:=⟨"_law_row",top 15,["_law_cell_here", "_law_names_here"],["_law_cell_here", "_law_names_here", "_law_wide", "_law_kind", "_law_x", "_law_s", "_law_one", "_law_other"],1,none,(.c (.l (.st 2 (.bo .add (.fb .len (.c (.v 1) .n)) (.ki 2)))) (.c (.l (.as (.l 5 (.c (.n 3) (.c (.n 4) (.c (.n 5) (.c (.n 6) (.c (.n 7) .n)))))) (.ca 1 (.c (.v 0) (.c (.li (.c (.ki 12) (.c (.fb .len (.c (.v 1) .n)) (.c (.ki 8) (.c (.v 2) (.c (.v 2) .n)))))) .n))))) (.c (.l (.st 6 (.ca 0 (.c (.v 6) (.c (.v 0) (.c (.v 1) .n)))))) (.c (.ie (.c .lt (.v 3) (.ki 7)) (.o (.l (.rt (.tu (.c (.ks "reckon") (.c (.ix (.v 1) (.v 4)) (.c (.ix (.ks "+-*&|^<=") (.v 5)) (.c (.v 6) (.c (.ca 0 (.c (.v 7) (.c (.bo .div (.v 0) (.ki 7)) (.c (.v 1) .n)))) .n))))))))) .n) (.c (.ie (.c .lt (.v 3) (.ki 9)) (.o (.l (.rt (.tu (.c (.ks "copy") (.c (.ix (.v 1) (.v 4)) (.c (.v 6) .n))))))) .n) (.c (.ie (.c .eq (.v 3) (.ki 9)) (.o (.l (.rt (.tu (.c (.ks "say") (.c (.v 6) .n)))))) .n) (.o (.l (.rt (.tu (.c (.ks "part") (.c (.v 6) (.c (.bo .mod (.bo .div (.v 0) (.ki 5)) (.ki 1000)) .n))))))))))))),none⟩
noncomputable def JZ:List C.Dd:=y6::JY
noncomputable def L0:List C.FT:=.p r6::LZ
theorem Yp:C.tab JZ=L0:=C.eO Yo rfl rfl rfl
noncomputable def Er:Ev→Option Fl :=
 (aw (aL (jB (ae aQ (ae aY (ae bD (jV 2) (jC (.int 3))) (jC (.int 3))) (jC (.int 0))))
  (bN 0 (ck (ag (jC (.str "end")) ah)))
  (aL (jB (ae aQ (ae aY (ae bD (jV 2) (jC (.int 3))) (jC (.int 3))) (jC (.int 1))))
  (bN 0 (ck (ag (jC (.str "go")) (ag (ae aj (jV 3) (ae aY (ae bD (jV 2) (jC (.int 9))) (aD bI (ag (jV 3) ah)))) ah))))
  (bN 0 (ck (ag (jC (.str "go")) (ag (ae fj (cV eQ (jC (.int 1))) (ae aY (ae bD (jV 2) (jC (.int 9))) (jC (.int 1000)))) ah))))))
 (qe 0 (jV 1) (ck (ag (jC (.str "part")) (ag (ae aj (ae aj (jV 0) (jV 1)) (jC (.int 1))) (ag (aD bI (ag (jV 0) ah)) ah))))))
noncomputable def lA:List D→Option (M×D×List D):=jt 4 [0,3] Er
noncomputable def y7:C.Dd:=⟨"_law_shut",top 16,["_law_rows", "_law_begin", "_law_cell_here", "_law_outer"],["_law_rows", "_law_begin", "_law_cell_here", "_law_outer"],0,some [0,3],(.c (.ie (.c .eq (.bo .mod (.bo .div (.v 2) (.ki 3)) (.ki 3)) (.ki 0)) (.o (.l (.ap 0 (.tu (.c (.ks "end") .n))))) (.o (.ie (.c .eq (.bo .mod (.bo .div (.v 2) (.ki 3)) (.ki 3)) (.ki 1)) (.o (.l (.ap 0 (.tu (.c (.ks "go") (.c (.ix (.v 3) (.bo .mod (.bo .div (.v 2) (.ki 9)) (.fb .len (.c (.v 3) .n)))) .n)))))) (.o (.l (.ap 0 (.tu (.c (.ks "go") (.c (.bo .sub (.uo .neg (.ki 1)) (.bo .mod (.bo .div (.v 2) (.ki 9)) (.ki 1000))) .n))))))))) (.o (.l (.si 0 (.v 1) (.tu (.c (.ks "part") (.c (.ix (.ix (.v 0) (.v 1)) (.ki 1)) (.c (.fb .len (.c (.v 0) .n)) .n)))))))),none⟩
noncomputable def J0:List C.Dd:=y7::JZ
noncomputable def L1:List C.FT:=.io [0,3] lA::L0
theorem Yq:C.tab J0=L1:=C.Ap Yp rfl rfl rfl
noncomputable def vq:Ev→Option Fl :=
 (aw (aL (bY (jB (ae aQ (ae aj (jV 4) (jC (.int 0))) (jC (.str "go")))) (jB (ae dY (ae aj (jV 4) (jC (.int 1))) (jC (.int 0)))))
  (aH 4 (ck (ag (jC (.str "go")) (ag (ae aW (ae aW (jV 3) (jC (.int 1))) (ae aY (ae fj (cV eQ (jC (.int 1))) (ae aj (jV 4) (jC (.int 1)))) (ae fj (ae fj (jV 1) (jV 3)) (jC (.int 1))))) ah))))
  (aL (jB (ae aQ (ae aj (jV 4) (jC (.int 0))) (jC (.str "part"))))
  (aw (aH 5 (ae aY (ae aj (jV 4) (jC (.int 2))) (jV 1)))
 (aH 4 (ck (ag (jC (.str "part")) (ag (ae aj (jV 4) (jC (.int 1))) (ag (ae aj (bJ (ag (jV 5) (ag (jV 3) ah))) (aD c7 (ag (ae aQ (jV 5) (ae aW (jV 3) (jC (.int 1)))) ah))) ah))))))
  a8))
 (bN 2 (jV 4)))
noncomputable def DQ:Ev→Option Fl :=
 (aw (aH 1 (aD bI (ag (jV 0) ah)))
 (aw (aH 2 (bJ ah))
 (aw (jo 0 (fq (pG (ag (jV 0) ah)) (gT 2 (b8 (gN 3) (b8 (gN 4) fG)))
  vq))
 (aP (jV 2)))))
noncomputable def rQ:List D→Option (M×D):=fn 6 DQ
noncomputable def y8:C.Dd:=⟨"_law_turned_to",top 17,["_law_rows"],["_law_rows", "_law_many", "_law_found", "_law_n", "_law_row_here", "_law_to"],0,none,(.c (.l (.st 1 (.fb .len (.c (.v 0) .n)))) (.c (.l (.st 2 (.li .n))) (.c (.fz 0 (.fo (.en (.c (.v 0) .n)) (.t 2 (.c (.n 3) (.c (.n 4) .n))) (.c (.ie (.an (.c .eq (.ix (.v 4) (.ki 0)) (.ks "go")) (.c .lt (.ix (.v 4) (.ki 1)) (.ki 0))) (.o (.l (.st 4 (.tu (.c (.ks "go") (.c (.bo .add (.bo .add (.v 3) (.ki 1)) (.bo .mod (.bo .sub (.uo .neg (.ki 1)) (.ix (.v 4) (.ki 1))) (.bo .sub (.bo .sub (.v 1) (.v 3)) (.ki 1)))) .n)))))) (.o (.ie (.c .eq (.ix (.v 4) (.ki 0)) (.ks "part")) (.c (.l (.st 5 (.bo .mod (.ix (.v 4) (.ki 2)) (.v 1)))) (.o (.l (.st 4 (.tu (.c (.ks "part") (.c (.ix (.v 4) (.ki 1)) (.c (.ix (.li (.c (.v 5) (.c (.v 3) .n))) (.fb .int (.c (.co .eq (.v 5) (.bo .add (.v 3) (.ki 1))) .n))) .n)))))))) .n))) (.o (.l (.ap 2 (.v 4))))))) (.o (.l (.rt (.v 2))))))),none⟩
noncomputable def J1:List C.Dd:=y8::J0
noncomputable def L3:List C.FT:=.p rQ::L1
theorem Yr:C.tab J1=L3:=C.eO Yq rfl rfl rfl
noncomputable def vv:Ev→Option Fl :=
 (aw (aL (jB (ae (oN false) (ae aj (jV 4) (jC (.int 0))) (ck (ag (jC (.str "go")) (ag (jC (.str "part")) ah)))))
  (aH 4 (ae aW (gj eW (jV 4) gu (fF (cV eQ (jC (.int 1))))) (ck (ag (ae aW (ae aj (jV 4) (cV eQ (jC (.int 1)))) (jC (.int 1))) ah))))
  a8)
 (bN 3 (jV 4)))
noncomputable def DY:Ev→Option Fl :=
 (aw (aH 2 (aD bI (ag (jV 0) ah)))
 (aw (aH 3 (bJ (ag (ck (ag (jC (.str "go")) (ag (jV 2) ah))) ah)))
 (aw (fq (gn (gj eW (jV 0) gu (fF (cV eQ (jC (.int 1)))))) (gN 4)
  vv)
 (aP (ae aW (jV 3) (bJ (ag (ck (ag (jC (.str "part")) (ag (jV 1) (ag (jC (.int 1)) ah)))) (ag (ck (ag (jC (.str "end")) ah)) ah))))))))
noncomputable def rV:List D→Option (M×D):=fn 5 DY
noncomputable def y9:C.Dd:=⟨"_law_tested",top 18,["_law_rows", "_law_name"],["_law_rows", "_law_name", "_law_many", "_law_found", "_law_row_here"],0,none,(.c (.l (.st 2 (.fb .len (.c (.v 0) .n)))) (.c (.l (.st 3 (.li (.c (.tu (.c (.ks "go") (.c (.v 2) .n))) .n)))) (.c (.fo (.l (.sl (.v 0) .n (.s (.uo .neg (.ki 1))))) (.n 4) (.c (.ie (.c .vi (.ix (.v 4) (.ki 0)) (.tu (.c (.ks "go") (.c (.ks "part") .n)))) (.o (.l (.st 4 (.bo .add (.sl (.v 4) .n (.s (.uo .neg (.ki 1)))) (.tu (.c (.bo .add (.ix (.v 4) (.uo .neg (.ki 1))) (.ki 1)) .n)))))) .n) (.o (.l (.ap 3 (.v 4)))))) (.o (.l (.rt (.bo .add (.v 3) (.li (.c (.tu (.c (.ks "part") (.c (.v 1) (.c (.ki 1) .n)))) (.c (.tu (.c (.ks "end") .n)) .n)))))))))),none⟩
noncomputable def J2:List C.Dd:=y9::J1
noncomputable def L4:List C.FT:=.p rV::L3
theorem Ys:C.tab J2=L4:=C.eO Yr rfl rfl rfl
noncomputable def pP:Ev→Option Fl :=
 (aL (bY (jB (ae aQ (ae aY (jV 6) (jC (.int 11))) (jC (.int 3)))) (jB (ae jn (jV 5) (jC .non))))
  (aw (aH 5 (aD bI (ag (jV 3) ah)))
 (aw (bN 4 (jV 5))
 (bN 3 (ck (ag (jC (.str "part")) (ag (aI iY (ag (ae aY (ae bD (jV 6) (jC (.int 11))) (ae aW (aD bI (ag (jV 1) ah)) (jC (.int 1)))) (ag (jV 6) (ag (jV 1) ah)))) (ag (jC (.int 0)) ah)))))))
  (aL (bY (jB (ae dY (ae aY (jV 6) (jC (.int 11))) (jC (.int 3)))) (jB (ae kc (jV 5) (jC .non))))
  (aw (i7 [0,3] [3,4] [(0,3),(1,5),(3,4)] lA (ag (jV 3) (ag (jV 5) (ag (ae bD (jV 6) (jC (.int 11))) (ag (jV 4) ah)))))
 (aH 5 (jC .non)))
  (aw (aL (jB (ae jn (jV 5) (jC .non)))
  (bN 4 (aD bI (ag (jV 3) ah)))
  a8)
 (bN 3 (aI r6 (ag (ae bD (jV 6) (jC (.int 11))) (ag (jV 1) ah)))))))
noncomputable def DT:Ev→Option Fl :=
 (aw (aH 3 (bJ ah))
 (aw (aH 4 (bJ ah))
 (aw (aH 5 (jC .non))
 (aw (fq (gn (ae aW (jV 0) (gF (iI (ag (ae c6 (jV 2) (aD c7 (ag (ae fu (jV 0) (bJ ah)) ah))) ah)) [0] ft (ae aW (ae aj (jV 1) (ae aY (jV 0) (aD bI (ag (jV 1) ah)))) (ae c6 (jC (.int 101)) (jV 0)))))) (gN 6)
  pP)
 (aw (aL (jB (ae kc (jV 5) (jC .non)))
  (i7 [0,3] [3,4] [(0,3),(1,5),(3,4)] lA (ag (jV 3) (ag (jV 5) (ag (jC (.int 0)) (ag (jV 4) ah)))))
  a8)
 (aw (aH 3 (aI rQ (ag (ae aW (jV 3) (bJ (ag (ck (ag (jC (.str "end")) ah)) ah))) ah)))
 (aw (aL (bY (jB (ae fu (jV 0) (bJ ah))) (bY (jB (ae aQ (ae aY (ae bD (ae aj (jV 0) (jC (.int 0))) (jC (.int 7))) (jC (.int 6))) (jC (.int 1)))) (jB (ae dY (aD bI (ag (jV 3) ah)) (jC (.int 59))))))
  (aH 3 (aI rV (ag (jV 3) (ag (ae aj (jV 1) (jC (.int 0))) ah))))
  a8)
 (aP (jV 3)))))))))
noncomputable def rR:List D→Option (M×D):=fn 7 DT
noncomputable def za:C.Dd:=⟨"_law_program",top 19,["_law_cells", "_law_names_here", "_law_more"],["_law_cells", "_law_names_here", "_law_more", "_law_rows", "_law_outer", "_law_begin", "_law_cell_here"],2,none,(.c (.l (.st 3 (.li .n))) (.c (.l (.st 4 (.li .n))) (.c (.l (.st 5 .kn)) (.c (.fo (.l (.bo .add (.v 0) (.cp (.r1 (.c (.bo .mul (.v 2) (.fb .int (.c (.co .rL (.v 0) (.li .n)) .n))) .n)) [0] .y (.bo .add (.ix (.v 1) (.bo .mod (.v 0) (.fb .len (.c (.v 1) .n)))) (.bo .mul (.ki 101) (.v 0)))))) (.n 6) (.o (.ie (.an (.c .eq (.bo .mod (.v 6) (.ki 11)) (.ki 3)) (.c .vg (.v 5) .kn)) (.c (.l (.st 5 (.fb .len (.c (.v 3) .n)))) (.c (.l (.ap 4 (.v 5))) (.o (.l (.ap 3 (.tu (.c (.ks "part") (.c (.ca 4 (.c (.bo .mod (.bo .div (.v 6) (.ki 11)) (.bo .add (.fb .len (.c (.v 1) .n)) (.ki 1))) (.c (.v 6) (.c (.v 1) .n)))) (.c (.ki 0) .n))))))))) (.o (.ie (.an (.c .lt (.bo .mod (.v 6) (.ki 11)) (.ki 3)) (.c .vh (.v 5) .kn)) (.c (.l (.iD 2 [3,4] (.c (.v 3) (.c (.v 5) (.c (.bo .div (.v 6) (.ki 11)) (.c (.v 4) .n)))))) (.o (.l (.st 5 .kn)))) (.c (.ie (.c .vg (.v 5) .kn) (.o (.l (.ap 4 (.fb .len (.c (.v 3) .n))))) .n) (.o (.l (.ap 3 (.ca 3 (.c (.bo .div (.v 6) (.ki 11)) (.c (.v 1) .n)))))))))))) (.c (.ie (.c .vh (.v 5) .kn) (.o (.l (.iD 2 [3,4] (.c (.v 3) (.c (.v 5) (.c (.ki 0) (.c (.v 4) .n))))))) .n) (.c (.l (.st 3 (.ca 1 (.c (.bo .add (.v 3) (.li (.c (.tu (.c (.ks "end") .n)) .n))) .n)))) (.c (.ie (.an (.c .rL (.v 0) (.li .n)) (.an (.c .eq (.bo .mod (.bo .div (.ix (.v 0) (.ki 0)) (.ki 7)) (.ki 6)) (.ki 1)) (.c .lt (.fb .len (.c (.v 3) .n)) (.ki 59)))) (.o (.l (.st 3 (.ca 0 (.c (.v 3) (.c (.ix (.v 1) (.ki 0)) .n)))))) .n) (.o (.l (.rt (.v 3))))))))))),none⟩
noncomputable def J3:List C.Dd:=za::J2
noncomputable def L5:List C.FT:=.p rR::L4
theorem Yt:C.tab J3=L5:=C.eO Ys rfl rfl rfl
noncomputable def DU:Ev→Option Fl :=
 (aw (aH 3 (tI [((jC (.str "+")),(ae aW (jV 1) (jV 2))),((jC (.str "-")),(ae fj (jV 1) (jV 2))),((jC (.str "*")),(ae c6 (jV 1) (jV 2))),((jC (.str "&")),(ae ou (jV 1) (jV 2))),((jC (.str "|")),(ae oM (jV 1) (jV 2))),((jC (.str "^")),(ae oy (jV 1) (jV 2))),((jC (.str "<")),(aD c7 (ag (ae dY (jV 1) (jV 2)) ah))),((jC (.str "=")),(aD c7 (ag (ae aQ (jV 1) (jV 2)) ah)))]))
 (aP (ae aY (iA (jV 3) (jV 0)) (jC (.int 18446744073709551616)))))
noncomputable def vy:List D→Option (M×D):=fn 4 DU
noncomputable def zb:C.Dd:=⟨"_law_come_to",top 20,["_law_s", "_law_a", "_law_b"],["_law_s", "_law_a", "_law_b", "_law_some"],0,none,(.c (.l (.st 3 (.dD (.c (.ks "+") (.bo .add (.v 1) (.v 2)) (.c (.ks "-") (.bo .sub (.v 1) (.v 2)) (.c (.ks "*") (.bo .mul (.v 1) (.v 2)) (.c (.ks "&") (.bo .band (.v 1) (.v 2)) (.c (.ks "|") (.bo .bor (.v 1) (.v 2)) (.c (.ks "^") (.bo .bxor (.v 1) (.v 2)) (.c (.ks "<") (.fb .int (.c (.co .lt (.v 1) (.v 2)) .n)) (.c (.ks "=") (.fb .int (.c (.co .eq (.v 1) (.v 2)) .n)) .n))))))))))) (.o (.l (.rt (.bo .mod (.dg (.v 3) (.v 0)) (.ki 18446744073709551616)))))),none⟩
noncomputable def J4:List C.Dd:=zb::J3
noncomputable def L6:List C.FT:=.p vy::L5
theorem Yu:C.tab J4=L6:=C.eO Yt rfl rfl rfl
noncomputable def rW:Ev→Option Fl :=
 (aL (jB (aD eR (ag (jV 6) (ag (jC (.ty "str")) ah))))
  (bN 5 (j5 (jV 2) (jV 6) (jC (.int 0))))
  (bN 5 (jV 6)))
noncomputable def Et:Ev→Option Fl :=
 (aw (aH 4 (ae aj (jV 0) (jV 1)))
 (aw (aH 5 (bJ ah))
 (aw (fq (yB (gj eW (jV 4) (fF (jC (.int 1))) gu)) (gN 6)
  rW)
 (aw (aL (jB (ae aQ (ae aj (jV 4) (jC (.int 0))) (jC (.str "reckon"))))
  (fH 2 (ae aj (jV 4) (jC (.int 1))) (aI vy (ag (ae aj (jV 4) (jC (.int 2))) (ag (ae aj (jV 5) (jC (.int 2))) (ag (ae aj (jV 5) (jC (.int 3))) ah)))))
  (aL (jB (ae aQ (ae aj (jV 4) (jC (.int 0))) (jC (.str "copy"))))
  (fH 2 (ae aj (jV 4) (jC (.int 1))) (ae aj (jV 5) (jC (.int 1))))
  (aL (jB (ae aQ (ae aj (jV 4) (jC (.int 0))) (jC (.str "say"))))
  (bN 3 (ae aj (jV 5) (jC (.int 0))))
  (aL (cB (jB (ae aQ (ae aj (jV 4) (jC (.int 0))) (jC (.str "go")))) (jB (ae bV (ae aj (jV 5) (jC (.int 0))) (jC (.int 0)))))
  (aP (ae aj (jV 4) (cV eQ (jC (.int 1)))))
  a8))))
 (aP (ae aW (jV 1) (jC (.int 1))))))))
noncomputable def rY:List D→Option (M×D×List D):=jt 7 [2,3] Et
noncomputable def zc:C.Dd:=⟨"_law_step",top 21,["_law_program_here", "_law_n", "_law_worths", "_law_told"],["_law_program_here", "_law_n", "_law_worths", "_law_told", "_law_row_here", "_law_some", "_law_part"],1,some [2,3],(.c (.l (.st 4 (.ix (.v 0) (.v 1)))) (.c (.l (.st 5 (.li .n))) (.c (.fo (.t (.sl (.v 4) (.s (.ki 1)) .n)) (.n 6) (.o (.ie (.b (.fb .iX (.c (.v 6) (.c (.ty "str") .n)))) (.o (.l (.ap 5 (.g2 (.v 2) (.v 6) (.ki 0))))) (.o (.l (.ap 5 (.v 6))))))) (.c (.ie (.c .eq (.ix (.v 4) (.ki 0)) (.ks "reckon")) (.o (.l (.dp 2 (.ix (.v 4) (.ki 1)) (.ca 0 (.c (.ix (.v 4) (.ki 2)) (.c (.ix (.v 5) (.ki 2)) (.c (.ix (.v 5) (.ki 3)) .n))))))) (.o (.ie (.c .eq (.ix (.v 4) (.ki 0)) (.ks "copy")) (.o (.l (.dp 2 (.ix (.v 4) (.ki 1)) (.ix (.v 5) (.ki 1))))) (.o (.ie (.c .eq (.ix (.v 4) (.ki 0)) (.ks "say")) (.o (.l (.ap 3 (.ix (.v 5) (.ki 0))))) (.o (.ie (.or (.c .eq (.ix (.v 4) (.ki 0)) (.ks "go")) (.c .ne (.ix (.v 5) (.ki 0)) (.ki 0))) (.o (.l (.rt (.ix (.v 4) (.uo .neg (.ki 1)))))) .n))))))) (.o (.l (.rt (.bo .add (.v 1) (.ki 1))))))))),none⟩
noncomputable def J5:List C.Dd:=zc::J4
noncomputable def L7:List C.FT:=.io [2,3] rY::L6
theorem Yv:C.tab J5=L7:=C.Ap Yu rfl rfl rfl
noncomputable def vw:Ev→Option Fl :=
 (aw (aL (cB (jB (ae bV (jV 8) (jV 6))) (bY (jB (ae dN (jV 7) (jC (.int 0)))) (jB (ae aQ (ae aj (ae aj (jV 0) (ae aj (ae aj (jV 2) (jC (.int 3))) (ae fj (jV 7) (jC (.int 1))))) (jC (.int 0))) (jC (.str "end"))))))
  (aP (jC (.bl false)))
  a8)
 (aL (jB (ae bV (ae aj (ae aj (jV 0) (jV 6)) (jC (.int 0))) (jC (.str "end"))))
  (sN 6 [2,3] [4,5] [(0,0),(1,6),(2,4),(3,5)] rY (ag (jV 0) (ag (jV 6) (ag (jV 4) (ag (jV 5) ah)))))
  a8))
noncomputable def n8:Ev→Option Fl :=
 (aL (jB (ae bV (iA (jV 4) (jV 11)) (jC (.int 0))))
  (fH 10 (jV 11) (iA (jV 4) (jV 11)))
  a8)
noncomputable def DZ:Ev→Option Fl :=
 (aw (aH 4 (aD gG (ag (jV 1) ah)))
 (aw (aH 5 (bJ ah))
 (aw (aH 6 (jC (.int 0)))
 (aw (fq (pG (ag (ae aj (jV 2) (jC (.int 3))) ah)) (gT 2 (b8 (gN 7) (b8 (gN 8) fG)))
  vw)
 (aw (aH 9 (ky (ae dN (aD bI (ag (ae aj (jV 2) (jC (.int 3))) ah)) (jC (.int 0))) (ae aQ (ae aj (ae aj (jV 0) (ae aj (ae aj (jV 2) (jC (.int 3))) (cV eQ (jC (.int 1))))) (jC (.int 0))) (jC (.str "end")))))
 (aw (aL (cB (jB (ae bV (ae aj (jV 2) (jC (.int 0))) (ae aj (bJ (ag (jC (.str "spent")) (ag (jC (.str "end")) ah))) (aD c7 (ag (jV 9) ah))))) (cB (bY (fm (jB (jV 9))) (jB (ae bV (aD bI (ag (ae aj (jV 2) (jC (.int 3))) ah)) (jV 3)))) (jB (ae dN (aD bI (ag (ae aj (jV 2) (jC (.int 3))) ah)) (jV 3)))))
  (aP (jC (.bl false)))
  a8)
 (aw (aH 10 sO)
 (aw (jo 4 (tG C3 4 (gN 11)
  n8))
 (aP (ky (ae lQ (ae aj (jV 2) (jC (.int 1))) (jV 5)) (ae (iK false) (ae aj (jV 2) (jC (.int 2))) (jV 10))))))))))))
noncomputable def lz:List D→Option (M×D):=fn 12 DZ
noncomputable def zf:C.Dd:=⟨"_law_walked",top 22,["_law_program_here", "_law_handed", "_law_found", "_law_most"],["_law_program_here", "_law_handed", "_law_found", "_law_most", "_law_worths", "_law_told", "_law_n", "_law_k", "_law_here", "_law_ended", "_law_due", "_law_name"],2,none,(.c (.l (.st 4 (.fb .dict (.c (.v 1) .n)))) (.c (.l (.st 5 (.li .n))) (.c (.l (.st 6 (.ki 0))) (.c (.fo (.en (.c (.ix (.v 2) (.ki 3)) .n)) (.t 2 (.c (.n 7) (.c (.n 8) .n))) (.c (.ie (.or (.c .ne (.v 8) (.v 6)) (.an (.c .gt (.v 7) (.ki 0)) (.c .eq (.ix (.ix (.v 0) (.ix (.ix (.v 2) (.ki 3)) (.bo .sub (.v 7) (.ki 1)))) (.ki 0)) (.ks "end")))) (.o (.l (.rt (.kb false)))) .n) (.o (.ie (.c .ne (.ix (.ix (.v 0) (.v 6)) (.ki 0)) (.ks "end")) (.o (.l (.iS 6 0 [4,5] (.c (.v 0) (.c (.v 6) (.c (.v 4) (.c (.v 5) .n))))))) .n)))) (.c (.l (.st 9 (.an (.co .gt (.fb .len (.c (.ix (.v 2) (.ki 3)) .n)) (.ki 0)) (.co .eq (.ix (.ix (.v 0) (.ix (.ix (.v 2) (.ki 3)) (.uo .neg (.ki 1)))) (.ki 0)) (.ks "end"))))) (.c (.ie (.or (.c .ne (.ix (.v 2) (.ki 0)) (.ix (.li (.c (.ks "spent") (.c (.ks "end") .n))) (.fb .int (.c (.v 9) .n)))) (.or (.an (.nt (.b (.v 9))) (.c .ne (.fb .len (.c (.ix (.v 2) (.ki 3)) .n)) (.v 3))) (.c .gt (.fb .len (.c (.ix (.v 2) (.ki 3)) .n)) (.v 3)))) (.o (.l (.rt (.kb false)))) .n) (.c (.l (.st 10 .dK)) (.c (.fz 4 (.fk 4 (.n 11) (.o (.ie (.c .ne (.dg (.v 4) (.v 11)) (.ki 0)) (.o (.l (.dp 10 (.v 11) (.dg (.v 4) (.v 11))))) .n)))) (.o (.l (.rt (.an (.co .yM (.ix (.v 2) (.ki 1)) (.v 5)) (.co .jR (.ix (.v 2) (.ki 2)) (.v 10)))))))))))))),none⟩
noncomputable def J6:List C.Dd:=zf::J5
noncomputable def L8:List C.FT:=.p lz::L7
theorem Yw:C.tab J6=L8:=C.eO Yv rfl rfl rfl
noncomputable def D9:Ev→Option Fl :=
 (aw (aL (cB (fm (jB (aD eR (ag (jV 0) (ag (jC (.ty "tuple")) ah))))) (cB (jB (ae bV (aD bI (ag (jV 0) ah)) (jC (.int 4)))) (fm (jB (aD eR (ag (ae aj (jV 0) (jC (.int 1))) (ag (jC (.ty "list")) ah)))))))
  (aP (jC (.bl false)))
  a8)
 (aw (aL (cB (fm (jB (aD eR (ag (ae aj (jV 0) (jC (.int 2))) (ag (jC (.ty "dict")) ah))))) (fm (jB (aD eR (ag (ae aj (jV 0) (jC (.int 3))) (ag (jC (.ty "list")) ah))))))
  (aP (jC (.bl false)))
  a8)
 (aw (aH 1 (ae aW (ae aW (ae aj (jV 0) (jC (.int 1))) (pJ (ae aj (jV 0) (jC (.int 2))))) (ae aj (jV 0) (jC (.int 3)))))
 (aw (jo 1 (aL (jB (aD oQ (ag (gF (gn (jV 1)) [] ft (aD eR (ag (jV 0) (ag (jC (.ty "bool")) ah)))) ah)))
  (aP (jC (.bl false)))
  a8))
 (aP (aD oP (ag (gF (gn (jV 1)) [] ft (aD eR (ag (jV 0) (ag (jC (.ty "int")) ah)))) ah)))))))
noncomputable def pT:List D→Option (M×D):=fn 2 D9
noncomputable def zg:C.Dd:=⟨"_law_kinds",top 23,["_law_found"],["_law_found", "_law_numbers"],0,none,(.c (.ie (.or (.nt (.b (.fb .iX (.c (.v 0) (.c (.ty "tuple") .n))))) (.or (.c .ne (.fb .len (.c (.v 0) .n)) (.ki 4)) (.nt (.b (.fb .iX (.c (.ix (.v 0) (.ki 1)) (.c (.ty "list") .n))))))) (.o (.l (.rt (.kb false)))) .n) (.c (.ie (.or (.nt (.b (.fb .iX (.c (.ix (.v 0) (.ki 2)) (.c (.ty "dict") .n))))) (.nt (.b (.fb .iX (.c (.ix (.v 0) (.ki 3)) (.c (.ty "list") .n)))))) (.o (.l (.rt (.kb false)))) .n) (.c (.l (.st 1 (.bo .add (.bo .add (.ix (.v 0) (.ki 1)) (.lv (.ix (.v 0) (.ki 2)))) (.ix (.v 0) (.ki 3))))) (.c (.fz 1 (.ie (.b (.fb .any (.c (.cp (.l (.v 1)) [] .y (.fb .iX (.c (.v 0) (.c (.ty "bool") .n)))) .n))) (.o (.l (.rt (.kb false)))) .n)) (.o (.l (.rt (.fb .all (.c (.cp (.l (.v 1)) [] .y (.fb .iX (.c (.v 0) (.c (.ty "int") .n)))) .n))))))))),none⟩
noncomputable def J7:List C.Dd:=zg::J6
noncomputable def L9:List C.FT:=.p pT::L8
theorem Yx:C.tab J7=L9:=C.eO Yw rfl rfl rfl
noncomputable def sC:Ev→Option Fl :=
 (aL (jB (ae dN (ae aY (ae bD (aI cY (ag (jV 0) (ag (jC (.int 2)) ah))) (ae aW (jV 4) (jC (.int 1)))) (jC (.int 3))) (jC (.int 0))))
  (fH 3 (jV 5) (aI iY (ag (ae aW (jC (.int 4)) (ae aY (ae bD (aI cY (ag (jV 0) (ag (jC (.int 3)) ah))) (ae aW (jV 4) (jC (.int 1)))) (jC (.int 2)))) (ag (ae aW (aI cY (ag (jV 0) (ag (jC (.int 3)) ah))) (jV 4)) (ag (gj eW (jV 1) gu (fF (jC (.int 4)))) ah)))))
  a8)
noncomputable def vX:Ev→Option Bool :=
 (cB (fm (jB (aI pT (ag (jV 10) ah)))) (cB (fm (jB (aI lz (ag (jV 2) (ag (jV 7) (ag (jV 10) (ag (jV 6) ah))))))) (cB (jB (ae (iK true) (jV 3) (jV 7))) (jB (ae fu (jV 8) (jV 2))))))
noncomputable def sE:Ev→Option Fl :=
 (yL 10 (aI lL (ag (jV 2) (ag (jV 3) (ag (jV 6) ah)))) vX (jC (.bl false)) [oS (jC (.int 1)) (jC (.int 1)),tZ (jC (.int 2)) (jC (.str "a")) (jC (.int 7)),oS (jC (.int 3)) (jC (.int 0))]
 a8)
noncomputable def IW:Ev→Option Fl :=
 (aw (aH 1 (aI pR (ag (aI cY (ag (jV 0) (ag (jC (.int 0)) ah))) (ag (jC (.int 5)) ah))))
 (aw (aH 2 (aI rR (ag (gj eW (jV 0) (fF (jC (.int 4))) (fF (jC (.int 44)))) (ag (gj eW (jV 1) gu (fF (jC (.int 4)))) (ag (ae aY (aI cY (ag (jV 0) (ag (jC (.int 1)) ah))) (jC (.int 19))) ah)))))
 (aw (aH 3 sO)
 (aw (jo 1 (fq (pG (ag (jV 1) ah)) (gT 2 (b8 (gN 4) (b8 (gN 5) fG)))
  sC))
 (aw (aH 6 (ae aY (ae bD (aI cY (ag (jV 0) (ag (jC (.int 1)) ah))) (jC (.int 19))) (jC (.int 100))))
 (aw (aH 7 (aD gG (ag (jV 3) ah)))
 (aw (aH 8 (aD qu (ag (jV 2) ah)))
 (aw (fq (iI (ag (jC (.int 2)) ah)) (gN 9)
  sE)
 (aw (aL (jB (ae dN (jV 6) (jC (.int 94))))
  (aP (aI lz (ag (jV 2) (ag (jV 7) (ag (aI lL (w4 1000 (ag (jV 2) (ag (jV 3) ah)))) (ag (jC (.int 1000)) ah))))))
  a8)
 (aP (jC (.bl true))))))))))))
noncomputable def xc:List D→Option (M×D):=fn 11 IW
noncomputable def zh:C.Dd:=⟨"law",top 24,["_law_script"],["_law_script", "_law_names_here", "_law_program_here", "_law_handed", "_law_k", "_law_name", "_law_most", "_law_kept", "_law_rows", "_law_turn", "_law_found"],3,none,(.c (.l (.st 1 (.ca 11 (.c (.ca 12 (.c (.v 0) (.c (.ki 0) .n))) (.c (.ki 5) .n))))) (.c (.l (.st 2 (.ca 4 (.c (.sl (.v 0) (.s (.ki 4)) (.s (.ki 44))) (.c (.sl (.v 1) .n (.s (.ki 4))) (.c (.bo .mod (.ca 12 (.c (.v 0) (.c (.ki 1) .n))) (.ki 19)) .n)))))) (.c (.l (.st 3 .dK)) (.c (.fz 1 (.fo (.en (.c (.v 1) .n)) (.t 2 (.c (.n 4) (.c (.n 5) .n))) (.o (.ie (.c .gt (.bo .mod (.bo .div (.ca 12 (.c (.v 0) (.c (.ki 2) .n))) (.bo .add (.v 4) (.ki 1))) (.ki 3)) (.ki 0)) (.o (.l (.dp 3 (.v 5) (.ca 9 (.c (.bo .add (.ki 4) (.bo .mod (.bo .div (.ca 12 (.c (.v 0) (.c (.ki 3) .n))) (.bo .add (.v 4) (.ki 1))) (.ki 2))) (.c (.bo .add (.ca 12 (.c (.v 0) (.c (.ki 3) .n))) (.v 4)) (.c (.sl (.v 1) .n (.s (.ki 4))) .n))))))) .n)))) (.c (.l (.st 6 (.bo .mod (.bo .div (.ca 12 (.c (.v 0) (.c (.ki 1) .n))) (.ki 19)) (.ki 100)))) (.c (.l (.st 7 (.fb .dict (.c (.v 3) .n)))) (.c (.l (.st 8 (.fb .list (.c (.v 2) .n)))) (.c (.fo (.r1 (.c (.ki 2) .n)) (.n 9) (.u 10 (.ca 13 (.c (.v 2) (.c (.v 3) (.c (.v 6) .n)))) (.or (.nt (.b (.ca 0 (.c (.v 10) .n)))) (.or (.nt (.b (.ca 1 (.c (.v 2) (.c (.v 7) (.c (.v 10) (.c (.v 6) .n))))))) (.or (.c .yN (.v 3) (.v 7)) (.c .rL (.v 8) (.v 2))))) (.kb false) [.a (.ki 1) (.ki 1),.d (.ki 2) (.ks "a") (.ki 7),.a (.ki 3) (.ki 0)] .n)) (.c (.ie (.c .gt (.v 6) (.ki 94)) (.o (.l (.rt (.ca 1 (.c (.v 2) (.c (.v 7) (.c (.cd 13 (.c (.v 2) (.c (.v 3) .n)) 1000) (.c (.ki 1000) .n)))))))) .n) (.o (.l (.rt (.kb true))))))))))))),none⟩
noncomputable def xQ:List C.Dd:=zh::J7
noncomputable def Yy:List C.FT:=.p xc::L9
theorem Yz:C.tab xQ=Yy:=C.eO Yx rfl rfl rfl
theorem ok:C.xa bs gs xQ=true:=by decide +kernel
theorem W5:C.BA d1.nm d1.st d1.ps:=C.pL fun _ _ _ _ _ _ _ _=>rfl
theorem W6:C.BA d2.nm d2.st d2.ps:=C.rO fun _ _ _ _ _ _ _ _ _=>rfl
theorem W7:C.BA d3.nm d3.st d3.ps:=C.pL fun _ _ _ _ _ _ _ _=>rfl
theorem W8:C.BA d4.nm d4.st d4.ps:=C.rO fun _ _ _ _ _ _ _ _ _=>rfl
theorem W9:C.BA d5.nm d5.st d5.ps:=C.rO fun _ _ _ _ _ _ _ _ _=>rfl
theorem Xa:C.BA d6.nm d6.st d6.ps:=C.yV fun _ _ _ _ _ _ _=>rfl
theorem Xb:C.Du d7.nm d7.st d7.ps 1000:=C.W4 (fun _ _ _ _ _ _ _ _ _ _ _ _ _ e _ X _ _ _=>PySem.W.binds_K X rfl e rfl rfl rfl) (fun _ _ _ _ _ _ _ _ _ _ _ _ _ e _ X _ _=>PySem.W.binds_K X rfl e rfl rfl rfl)
theorem Xc:C.BA d8.nm d8.st d8.ps:=C.pL fun _ _ _ _ _ _ _ _=>rfl
theorem Xd:C.BA d9.nm d9.st d9.ps:=C.pL fun _ _ _ _ _ _ _ _=>rfl
theorem VY:C.BA y3.nm y3.st y3.ps:=C.pL fun _ _ _ _ _ _ _ _=>rfl
theorem VZ:C.BA y4.nm y4.st y4.ps:=C.rO fun _ _ _ _ _ _ _ _ _=>rfl
theorem V0:C.BA y6.nm y6.st y6.ps:=C.pL fun _ _ _ _ _ _ _ _=>rfl
theorem V1:C.BA y7.nm y7.st y7.ps:=C.Dt fun _ _ _ _ _ _ _ _ _ _=>rfl
theorem V2:C.BA y8.nm y8.st y8.ps:=C.yV fun _ _ _ _ _ _ _=>rfl
theorem V3:C.BA y9.nm y9.st y9.ps:=C.pL fun _ _ _ _ _ _ _ _=>rfl
theorem V4:C.BA za.nm za.st za.ps:=C.rO fun _ _ _ _ _ _ _ _ _=>rfl
theorem V5:C.BA zb.nm zb.st zb.ps:=C.rO fun _ _ _ _ _ _ _ _ _=>rfl
theorem V6:C.BA zc.nm zc.st zc.ps:=C.Dt fun _ _ _ _ _ _ _ _ _ _=>rfl
theorem V7:C.BA zf.nm zf.st zf.ps:=C.Dt fun _ _ _ _ _ _ _ _ _ _=>rfl
theorem V8:C.BA zg.nm zg.st zg.ps:=C.yV fun _ _ _ _ _ _ _=>rfl
theorem V9:C.BA zh.nm zh.st zh.ps:=C.yV fun _ _ _ _ _ _ _=>rfl
theorem ba:C.yW xQ:=⟨V9,V8,V7,V6,V5,V4,V3,V2,V1,V0,VZ,VY,Xd,Xc,Xb,Xa,W9,W8,W7,W6,W5,trivial⟩
end b6
namespace b6
open PySem L2 J
local macro_rules|`(tactic| walk_at "ev")=>`(tactic| simp -implicitDefEqProofs only [aw,aL,jB,ae,cV,jV,aD,ag,ah,aP,Ii,aH,a8,jC,aI,ky,yz,xC,bY,cB,fm,qF,ck,bJ,tE,eY,bN,qe,xD,gL,b8,fG,yD,uV,jo,aK,fq,gn,iI,ia,gO,own,gN,Bc,dB,ft,List.map_cons,List.map_nil,List.length_cons,List.length_nil,List.cons_append,List.nil_append,List.replicate,List.getElem?_cons_zero,List.getElem?_cons_succ,List.set_cons_zero,List.set_cons_succ,List.all_cons,List.all_nil,Option.bind_some,Option.bind_none,Option.map_some,Option.map_none,id_eq,Il,dQ,Im,lI,wR,Ad,Ae,Ip,Iq,tF,Ir,wV,iy,kf,AF,Iw,Iy,Iz,wW,bR,qg,zT,vS,oi,Af,Hc,Hd,He,wg,Hg,Hh,fW,xE,JA,JB,dq,wj,Hi,wm,if_true,if_false,Bool.and_self,Bool.and_true,Bool.true_and,Bool.false_eq_true,decide_true,decide_false,reduceIte,reduceCtorEq,List.length_map,Nat.reduceAdd,Nat.reduceSub,Bool.not_true,Bool.not_false,rE,JC,Nat.reduceLeDiff,mul_r,fE,div_ii,Io,Int.reducePow,Int.reduceNeg,Int.reduceLT,Int.reduceLE,Int.reduceToNat,and_self,and_true,true_and,Nat.reduceLT,ne_eq,not_false_eq_true])
noncomputable abbrev Dw:Str := "abcdefghijklmnopqrstuvwxyz"
noncomputable abbrev Ma:Str := "0123456789"
noncomputable abbrev Mb:List V:=[.str "say",.str "go",.str "part",.str "end"]
noncomputable abbrev Md:List V:=[.str "+",.str "-",.str "*",.str "&",.str "|",.str "^",.str "<",.str "="]
noncomputable def f9(c:Nat):Bool:=Bi Dw ⟨#[c]⟩
noncomputable def pM(c:Nat):Bool:=Bi Ma ⟨#[c]⟩
noncomputable def Mf:List Nat→Bool
 |c::_=>f9 c
 |[]=>false
noncomputable def nameS(z:Str):Bool:=decide (1≤z.length)&&(decide (z.length≤8)&&(!dW (.str z) Mb&&(Mf z.cps.toList&&z.cps.toList.all fun c=>f9 c||pM c)))
noncomputable def xg:D→Bool
 |.str z=>nameS z
 |_=>false
def Ok(d:D):Prop:=iU d ≠ "type" ∧ ∀z,d=.str z→z.length≤1000
noncomputable def Aq:D→Bool
 |.int i=>decide (0≤i)&&decide (i<18446744073709551616)
 |_=>false
noncomputable def zi(d:D):Bool:=xg d||Aq d
noncomputable def oC:D→Bool
 |.str z=>dW (.str z) Md
 |_=>false
noncomputable abbrev SG:Str := "abcdefghijklmnopqrstuvwxyz0123456789"
theorem vY(ns:List Int)(k:Int)(h0:0≤k)(h1:k≤1000):∃c,cY [.lst (ns.map .int),.int k]=some (.fr,.int c):=by
 unfold cY fn Ep
 walk_at "ev"
 by_cases h:k<ns.length
 ·obtain⟨c,hc⟩:=zF h0 h
  refine⟨c,?_⟩
  simp only[h,hc]
  walk_at "ev"
  simp only[Hf,fW]
 ·simp only[h]
  walk_at "ev"
  by_cases hz:(ns.length:Int)=0
  ·simp only[hz]
   walk_at "ev"
   simp[mul_r,Af]
  ·have hp:(0:Int)<ns.length:=by omega
   simp only[hz]
   walk_at "ev"
   rw[fE hp]
   walk_at "ev"
   obtain⟨c,hc⟩:=zF (ns:=ns) (k:=k%ns.length) (cQ _ (by omega)) (di _ hp)
   simp only[hc]
   walk_at "ev"
   rw[mul_r (by omega)]
   walk_at "ev"
   exact⟨_,rfl⟩
noncomputable def one(c:Nat):Str:=⟨#[c]⟩
theorem Fu:∀(cs:List Nat) (acc:Array Nat),(cs.map one).foldl (fun acc p=>acc++("" : Str).cps++p.cps) acc=acc++cs.toArray
 |[],acc=>by simp
 |c::cs,acc=>by
  rw[bF,List.foldl_cons,Fu cs]
  have e:("" : Str).cps=#[]:=by decide +kernel
  rw[e]
  simp[one]
theorem join_one(cs:List Nat):Txt.join "" (cs.map one)=⟨cs.toArray⟩:=by
 cases cs with
 |nil=>rfl
 |cons c cs =>
  show(⟨((c::cs).map one).tail.foldl (fun acc p=>acc++("" : Str).cps++p.cps) #[c]⟩:Str)=_
  rw[bF,List.tail_cons,Fu]
  simp
theorem UQ(cs:List Nat):(⟨cs.toArray⟩:Str).length=cs.length:=by
 show cs.toArray.size=_
 simp
theorem RW{m n:M}{cs:List Nat}(hl:cs.length≤1000):qy (m,.str "") [(n,.lst ((cs.map one).map D.str))]=some (.fr,.str ⟨cs.toArray⟩):=by
 simp only[qy,EI,Option.bind_some]
 rw[if_pos,join_one]
 have h1:∀y∈cs.map one,y.length=1:=fun y hy=>by obtain⟨c,_,rfl⟩:=de.mp hy;rfl
 rw[Fg h1,aU]
 have:("" : Str).length=0:=by decide
 rw[this,Nat.mul_zero,Nat.add_zero]
 exact bQ hl (by decide)
theorem HC:SG.cps.toList.length=36:=by decide +kernel
theorem Wa:SG.length≤sizeLine:=by decide
theorem Xe:∀i:Nat,i<26→f9 (SG.cps.toList.getD i 0)=true:=by
 have h:∀i∈List.range 26,decide (SG.cps.toList.getD i 0∈Dw.cps.toList)=true:=by decide +kernel
 intro i hi
 unfold f9
 rw[zW]
 exact h i (ug.mpr hi)
theorem Xf:∀i:Nat,i<36→(f9 (SG.cps.toList.getD i 0)||pM (SG.cps.toList.getD i 0))=true:=by
 have h:∀i∈List.range 36,(decide (SG.cps.toList.getD i 0∈Dw.cps.toList)||decide (SG.cps.toList.getD i 0∈Ma.cps.toList))=true:=by decide +kernel
 intro i hi
 unfold f9 pM
 rw[zW,zW]
 exact h i (ug.mpr hi)
theorem IX{m n:M}{i:Int}(h0:0≤i)(h1:i<36):∃c,aj (m,.str SG) (n,.int i)=some (.fr,.str ⟨#[c]⟩)∧(f9 c||pM c)=true∧(i<26→f9 c=true):=by
 have hl:i.toNat<SG.cps.toList.length:=by rw[HC];omega
 refine⟨SG.cps.toList.getD i.toNat 0,?_,Xf _ (by omega),fun h=>Xe _ (by omega)⟩
 rw[Iu Wa,i6 h0 (by rw[HC];omega),qV,bO hl]
 rfl
def Nm(cs:List Nat):Prop:=(∀c∈cs,(f9 c||pM c)=true)∧Mf cs=true
theorem RX{cs:List Nat}(h8:cs.length≤8)(h:Nm cs)(hw:dW (.str ⟨cs.toArray⟩) Mb=false):nameS ⟨cs.toArray⟩=true:=by
 have h1:1≤cs.length:=by
  cases cs with
  |nil=>exact absurd h.2 (by decide)
  |cons c cs=>simp
 have e:(⟨cs.toArray⟩:Str).cps.toList=cs:=by simp
 simp only[nameS,UQ,decide_eq_true h1,decide_eq_true h8,hw,e,h.2,List.all_eq_true.mpr h.1,Bool.not_false,Bool.and_self]
theorem Nm.set{cs:List Nat}{c k:Nat}(h:Nm cs)(hc:f9 c=true):Nm (cs.set k c):=by
 refine⟨fun x hx=>?_,?_⟩
 ·rcases List.mem_or_eq_of_mem_set hx with h'|rfl
  ·exact h.1 x h'
  ·rw[hc];rfl
 ·cases cs with
  |nil=>exact h.2
  |cons a cs =>
   cases k with
   |zero=>exact hc
   |succ k=>exact h.2
theorem Wb {z:Str} (h:dW (.str z) [.str "say",.str "go",.str "part",.str "end"]=true):nameS (z ++ "0")=true∧z.length≤10:=by
 unfold dW at h
 simp only[List.any_cons,List.any_nil,Bool.or_false,Bool.or_eq_true,jM,beq_iff_eq]at h
 rcases h with rfl|rfl|rfl|rfl<;>decide +kernel
theorem N7(c j:Int)(h0:0≤j)(h1:j<8):∃x,(ae aj (jV 1) (ae aY (ae bD (jV 2) (ae aW (jC (.int 64)) (ae c6 (jC (.int 5)) (jV 0)))) (ae aj (bJ (ag (jC (.int 26)) (ag (jC (.int 36)) ah))) (aD c7 (ag (ae dN (jV 0) (jC (.int 0))) ah))))) [some (.fr,.int j),some (.fr,.str SG),some (.al,.int c)]=some (.fr,.str (one x))∧(f9 x||pM x)=true∧(j=0→f9 x=true):=by
 have hm:∃k,(k=26∨(k=36∧j≠0))∧L2.aX [D.int 26,D.int 36] (if decide (0<j)=true then 1 else 0)=some (.int k):=by
  by_cases h:0<j
  ·exact⟨36,.inr ⟨rfl,by omega⟩,by simp[h];rfl⟩
  ·exact⟨26,.inl rfl,by simp[h];rfl⟩
 obtain⟨k,hk,ek⟩:=hm
 have kp:0<k:=by omega
 have q0:=cQ (c/(64+5*j)) (show k≠0 by omega)
 have q1:=di (c/(64+5*j)) kp
 obtain⟨d,e1,e2,e3⟩:=IX (m:=.fr) (n:=.fr) q0 (by omega)
 refine⟨d,?_,e2,fun hj=>e3 (by omega)⟩
 walk_at "ev"
 rw[mul_r (by omega),ek]
 walk_at "ev"
 rw[div_ii (by omega)]
 walk_at "ev"
 rw[fE kp]
 walk_at "ev"
 exact e1
theorem Fv{fe:Ev→Option (M×D)}{m:M}{fr:Ev}:∀{ds:List D}{P:Nat→Nat→Prop},(∀(k:Nat) d,ds[k]?=some d→∃x,fe (some (m,d)::fr)=some (.fr,.str (one x))∧P k x)→∃cs:List Nat,fU ft fe m fr ds=some (((cs.map one).map D.str).map fun x=>(M.fr,x))∧cs.length=ds.length∧∀(k:Nat) x,cs[k]?=some x→P k x
 |[],P,_=>⟨[],rfl,rfl,fun k x h=>by simp at h⟩
 |d::ds,P,h=>by
  obtain⟨x,h2,h3⟩:=h 0 d rfl
  obtain⟨cs,q1,q2,q3⟩:=Fv (ds:=ds) (P:=fun k x=>P (k+1) x) fun k e he=>h (k+1) e (by simpa using he)
  refine⟨x::cs,?_,by rw[cz,cz,q2],fun k y hy=>?_⟩
  ·rw[fU,show ft (some (m,d)::fr)=some true from rfl,aB,if_pos rfl,h2,aB,q1,aB];rfl
  ·cases k with
   |zero=>simp at hy;subst hy;exact h3
   |succ k=>exact q3 k y (by simpa using hy)
theorem Nb(c:Int)(sz lR:Int)(cs:List Nat)(hy:Nm cs)(hl:cs.length≤8)(hs:0≤lR∧lR<cs.length)(fs:List Str)(hf:fs.length≤60)(j:Int)(many:M×D)(o:Option (M×D)) :
  ∃(cM:List Nat) (z:Str),Nm cM∧cM.length=cs.length∧nameS z=true∧vx [some (.al,.int c),some many,some (.fr,.str SG),some (.fr,.int sz),some (.fr,.int lR),some (.bo,.lst ((cs.map one).map .str)),some (.bo,.lst (fs.map .str)),some (.fr,.int j),o] =
   some (.nx [some (.al,.int c),some many,some (.fr,.str SG),some (.fr,.int sz),some (.fr,.int lR),some (.bo,.lst ((cM.map one).map .str)),some (.bo,.lst ((fs++[z]).map .str)),some (.fr,.int j),some (.fr,.str z)]):=by
 have q0:=cQ (c/64+j) (show(26:Int)≠0 by decide)
 have q1:=di (c/64+j) (show(0:Int)<26 by decide)
 obtain⟨cp,e1,_,e2⟩:=IX (m:=.fr) (n:=.fr) q0 (by omega)
 have e2:=e2 q1
 have hx:dF ((cs.map one).map D.str).length lR=some lR.toNat:=by
  unfold dF;rw[aU,aU,if_pos hs.1,if_pos hs.2]
 let cM:=cs.set lR.toNat cp
 have uL:Nm cM:=hy.set e2
 have kR:cM.length=cs.length:=hG
 have ez:=RW (m:=.fr) (n:=.bo) (cs:=cM) (by omega)
 have es:((cs.map one).map D.str).set lR.toNat (.str ⟨#[cp]⟩)=(cM.map one).map D.str:=by rw[List.map_set,List.map_set];rfl
 have ef:∀w:Str,fs.map D.str++[D.str w]=(fs++[w]).map D.str:=fun w=>by rw[dh];rfl
 unfold vx
 by_cases hz:dW (.str ⟨cM.toArray⟩) [.str "say",.str "go",.str "part",.str "end"]=true
 ·obtain⟨hn,hw⟩:=Wb hz
  refine⟨cM,⟨cM.toArray⟩ ++ "0",uL,kR,hn,?_⟩
  have Xg:∀{m n:M},aW (m,.str ⟨cM.toArray⟩) (n,.str "0")=some (.fr,.str (⟨cM.toArray⟩ ++ "0")):=fun {m n}=>Ub (by
   have:("0" : Str).length=1:=by decide
   rw[this]
   exact bQ (show _+1≤1000 by omega) (by decide))
  walk_at "ev"
  rw[e1]
  walk_at "ev"
  simp -implicitDefEqProofs only [List.length_map]at hx
  rw[hx]
  walk_at "ev"
  rw[es,ez]
  walk_at "ev"
  simp -implicitDefEqProofs only [oN,cW,qI,qH,hz,Option.bind_some]
  walk_at "ev"
  rw[Xg]
  walk_at "ev"
  rw[if_pos (dJ hf (by decide)),ef]
 ·have rH:dW (.str ⟨cM.toArray⟩) [.str "say",.str "go",.str "part",.str "end"]=false:=by simpa using hz
  refine⟨cM,⟨cM.toArray⟩,uL,kR,RX (by omega) uL rH,?_⟩
  walk_at "ev"
  rw[e1]
  walk_at "ev"
  simp -implicitDefEqProofs only [List.length_map]at hx
  rw[hx]
  walk_at "ev"
  rw[es,ez]
  walk_at "ev"
  simp -implicitDefEqProofs only [oN,cW,qI,qH,rH,Option.bind_some]
  walk_at "ev"
  rw[if_pos (dJ hf (by decide)),ef]
theorem PY(c:Int)(k:Nat)(hk:k≤50):∃fs:List Str,fs.length=k∧(∀z∈fs,nameS z=true)∧pR [.int c,.int k]=some (.un,.lst (fs.map .str)):=by
 have a0:=cQ c (show(8:Int)≠0 by decide)
 have a1:=di c (show(0:Int)<8 by decide)
 generalize hsz:(1:Int)+c%8=sz
 have s0:0<sz:=by omega
 have s1:sz≤8:=by omega
 have p0:=cQ (c/8) (show sz≠0 by omega)
 have p1:=di (c/8) s0
 obtain⟨cs,ex,xl,xo⟩:=Fv (fe:=ae aj (jV 1) (ae aY (ae bD (jV 2) (ae aW (jC (.int 64)) (ae c6 (jC (.int 5)) (jV 0)))) (ae aj (bJ (ag (jC (.int 26)) (ag (jC (.int 36)) ah))) (aD c7 (ag (ae dN (jV 0) (jC (.int 0))) ah))))) (m:=.fr) (fr:=[some (.fr,.str SG),some (.al,.int c)]) (P:=fun k x=>(f9 x||pM x)=true∧(k=0→f9 x=true)) (ds:=fM 0 sz.toNat) (fun i d hi=>by
  obtain⟨h1,rfl⟩:=Ah hi
  obtain⟨x,e1,e2,e3⟩:=N7 c (0+(i:Int)) (by omega) (by omega)
  exact⟨x,e1,e2,fun h=>e3 (by omega)⟩)
 rw[zU]at xl
 have KP:cs.length≤8:=by omega
 have YB:Nm cs:=by
  refine⟨fun x hx=>?_,?_⟩
  ·obtain⟨i,hi⟩:=List.mem_iff_getElem?.mp hx
   exact(xo i x hi).1
  ·cases cs with
   |nil=>simp at xl;omega
   |cons a cs=>exact(xo 0 a rfl).2 rfl
 have eL:eY (((cs.map one).map D.str).map fun x=>(M.fr,x))=some (.un,.lst ((cs.map one).map D.str)):=F9 (by rw[aU,aU];omega)
 obtain⟨e',l1,cM,fs,o,o2,g1,g2,g3,g4,rfl⟩:=og (g:=gN 7) (b:=vx) (m:=.fr) (ds:=fM 0 k) (e:=[some (.al,.int c),some (.al,.int (k:Int)),some (.fr,.str SG),some (.fr,.int sz),some (.fr,.int (c/8%sz)),some (.bo,.lst ((cs.map one).map .str)),some (.bo,.lst []),none,none])
  (fun i e=>∃(cM:List Nat) (fs:List Str) (o o2:Option (M×D)),Nm cM∧cM.length=cs.length∧fs.length=i∧(∀z∈fs,nameS z=true)∧e=[some (.al,.int c),some (.al,.int (k:Int)),some (.fr,.str SG),some (.fr,.int sz),some (.fr,.int (c/8%sz)),some (.bo,.lst ((cM.map one).map .str)),some (.bo,.lst (fs.map .str)),o,o2])
  ⟨cs,[],none,none,YB,rfl,rfl,(fun _ h=>nomatch h),rfl⟩
  (fun i d e hd ⟨cM,fs,o,o2,g1,g2,g3,g4,he⟩=>by
   obtain⟨hi,rfl⟩:=Ah hd
   subst he
   obtain⟨YC,z,q1,q2,qn,q3⟩:=Nb c sz (c/8%sz) cM g1 (by omega) ⟨p0,by omega⟩ fs (by omega) (0+(i:Int)) (.al,.int (k:Int)) o2
   refine⟨_,_,rfl,q3,YC,fs++[z],_,_,q1,by omega,by rw[b9,g3];rfl,fun y hy=>?_,rfl⟩
   rcases fX.mp hy with h|h
   ·exact g4 y h
   ·rw[List.mem_singleton]at h;subst h;exact qn)
 rw[zU]at g3
 refine⟨fs,g3,g4,?_⟩
 have hr:-4611686018427387904≤(k:Int)∧(k:Int)<4611686018427387904:=by omega
 have ht:(k:Int).toNat=k:=by omega
 have YD:-4611686018427387904≤sz∧sz<4611686018427387904:=by omega
 generalize (k:Int)=kk at l1 hr ht ⊢
 unfold pR fn D8
 walk_at "ev"
 rw[hsz,fE s0,show(Str.ofString "abcdefghijklmnopqrstuvwxyz0123456789")=SG from rfl]
 walk_at "ev"
 simp -implicitDefEqProofs only [gF]
 walk_at "ev"
 rw[if_pos YD]
 walk_at "ev"
 have ef:mw [some (M.al,D.int c),some (M.al,D.int kk),some (M.fr,D.str SG),some (M.fr,D.int sz),some (M.fr,D.int (c/8%sz)),none,none,none,none] [2,0]=[some (.fr,.str SG),some (.al,.int c)]:=rfl
 show(((((fU _ _ M.fr (mw [some (M.al,D.int c),some (M.al,D.int kk),some (M.fr,D.str SG),some (M.fr,D.int sz),some (M.fr,D.int (c/8%sz)),none,none,none,none] [2,0]) _).bind _).bind _).bind _).bind _)=_
 rw[ef,ex]
 simp -implicitDefEqProofs only [Option.bind_some,eL]
 walk_at "ev"
 rw[if_pos hr,ht]
 walk_at "ev"
 rw[l1]
 walk_at "ev"
theorem N8{z:Str}(h:nameS z=true):z.length≤8:=by
 simp only[nameS,Bool.and_eq_true,decide_eq_true_eq]at h
 exact h.2.1
theorem Ok.str{z:Str}(h:z.length≤1000):Ok (.str z):=⟨by simp[iU],fun y e=>by cases e;exact h⟩
theorem Ok.int{i:Int}:Ok (.int i):=⟨by simp[iU],fun y e=>by cases e⟩
theorem Ok.bl{b:Bool}:Ok (.bl b):=⟨by simp[iU],fun y e=>by cases e⟩
theorem Ok.lst{ds:List D}:Ok (.lst ds):=⟨by simp[iU],fun y e=>by cases e⟩
theorem Ok.dk{ds:List (Key×D)}:Ok (.dk ds):=⟨by simp[iU],fun y e=>by cases e⟩
def Dx(d:D):Prop:=zi d=true∧Ok d∧d.bx=true
theorem Fw{z:Str}(h:nameS z=true):Dx (.str z):=⟨by simp only[zi,xg,h,Bool.true_or],.str (by have:=N8 h;omega),xE⟩
theorem zY{i:Int}(h0:0≤i)(h1:i<18446744073709551616):Dx (.int i):=⟨by simp only[zi,xg,Aq,decide_eq_true h0,decide_eq_true h1];rfl,.int,fW⟩
noncomputable abbrev vp:Str := "+-*&|^<="
theorem UR{m n:M}{i:Int}(h0:0≤i)(h1:i<8):∃s:Str,aj (m,.str vp) (n,.int i)=some (.fr,.str s)∧oC (.str s)=true∧s.length≤1000:=by
 have hl:vp.cps.toList.length=8:=by decide +kernel
 have hs:∀i∈List.range 8,oC (.str ⟨#[vp.cps.toList.getD i 0]⟩)=true:=by decide +kernel
 refine⟨⟨#[vp.cps.toList.getD i.toNat 0]⟩,?_,hs _ (ug.mpr (by omega)),by show 1≤1000;decide⟩
 have aT:i.toNat<vp.cps.toList.length:=by omega
 rw[Iu (by decide),i6 h0 (by rw[hl];omega),qV,bO aT]
 rfl
def jU(k:Ko):Prop:=Dx (kD k)
noncomputable def RV:Row→Prop
 |.rk x s a b=>nameS x=true∧(oC (.str s)=true∧s.length≤1000)∧jU a∧jU b
 |.cp x a=>nameS x=true∧jU a
 |.sy a=>jU a
 |.go _=>True
 |.pt a _=>jU a
 |.en=>True
theorem zA{ns:List Str}{k:Int}(h0:0≤k)(h1:k<ns.length):∃c,L2.aX (ns.map D.str) k=some (.str c)∧c∈ns:=by
 rw[i6 h0 (by simpa using h1)]
 exact⟨ns[k.toNat]'(by omega),by simp,qW _⟩
theorem ML(c n s:Int)(ms:D)(hs:0<s∧s<1000000)(fs:List Int)(hf:fs.length≤60) :
  vt [some (.al,.int c),some (.al,ms),some (.fr,.int n),some (.bo,.lst (fs.map .int)),some (.al,.int s)]=some (.nx [some (.al,.int c),some (.al,ms),some (.fr,.int (n/s)),some (.bo,.lst ((fs++[n%s]).map .int)),some (.al,.int s)]):=by
 have ef:fs.map D.int++[D.int (n%s)]=(fs++[n%s]).map D.int:=by rw[dh];rfl
 unfold vt
 walk_at "ev"
 rw[fE hs.1]
 walk_at "ev"
 rw[if_pos (dJ hf (by decide)),ef]
 walk_at "ev"
 rw[div_ii (by omega)]
 walk_at "ev"
theorem N9(c:Int)(ms:List Int)(hm:∀m∈ms,0<m∧m<1000000)(hl:ms.length≤50):∃ds:List Int,vA [.int c,.lst (ms.map .int)]=some (.un,.lst (ds.map .int))∧Paired (fun m d=>0≤d∧d<m) ms ds:=by
 obtain⟨e',l1,n,fs,o,g1,rfl⟩:=og (g:=gN 4) (b:=vt) (m:=.al) (ds:=ms.map D.int) (e:=[some (.al,.int c),some (.al,.lst (ms.map .int)),some (.fr,.int (c*48271%2147483647)),some (.bo,.lst []),none])
  (fun i e=>∃(n:Int) (fs:List Int) (o:Option (M×D)),Paired (fun m d=>0≤d∧d<m) (ms.take i) fs∧e=[some (.al,.int c),some (.al,.lst (ms.map .int)),some (.fr,.int n),some (.bo,.lst (fs.map .int)),o])
  ⟨_,[],none,by rw[List.take_zero];exact .nil,rfl⟩
  (fun i d e hd ⟨n,fs,o,g1,he⟩=>by
   subst he
   rw[cE]at hd
   cases pN:ms[i]? with
   |none=>rw[pN]at hd;cases hd
   |some s =>
    rw[pN]at hd
    cases hd
    have hs:=hm s (fB pN)
    have YF:fs.length≤60:=by
     rw[←cJ g1,kH];omega
    refine⟨_,_,rfl,ML c n s _ hs fs YF,_,_,_,?_,rfl⟩
    rw[My.take_snoc pN]
    exact Paired.snoc g1 ⟨cQ _ (by omega),di _ hs.1⟩)
 rw[aU,List.take_of_length_le (aR _)]at g1
 refine⟨fs,?_,g1⟩
 unfold vA fn DX
 walk_at "ev"
 rw[l1]
 walk_at "ev"
theorem zr(d c:Int)(ns:List Str)(hv:∀z∈ns,nameS z=true)(h0:0≤d):∃k:Ko,iY [.int d,.int c,.lst (ns.map .str)]=some (.fr,kD k)∧jU k:=by
 unfold iY fn zm
 walk_at "ev"
 by_cases h:d<ns.length
 ·obtain⟨z,hz,hm⟩:=zA h0 h
  refine⟨.inr z,?_,Fw (hv z hm)⟩
  simp only[h,hz]
  walk_at "ev"
  simp only[Hf,xE];rfl
 ·simp only[h]
  walk_at "ev"
  by_cases h2:d=ns.length
  ·simp only[h2]
   walk_at "ev"
   have q0:=cQ c (show(3:Int)≠0 by decide)
   have q1:=di c (show(0:Int)<3 by decide)
   exact⟨.inl _,rfl,zY q0 (by omega)⟩
  ·simp only[h2]
   walk_at "ev"
   by_cases h3:c%3=0
   ·simp only[h3]
    walk_at "ev"
    have q0:=cQ (c/3) (show(9:Int)≠0 by decide)
    have q1:=di (c/3) (show(0:Int)<9 by decide)
    exact⟨.inl _,rfl,zY (by omega) (by omega)⟩
   ·simp only[h3]
    walk_at "ev"
    exact⟨.inl _,rfl,zY (cQ _ (by decide)) (di _ (by decide))⟩
noncomputable def tJ:Row→Prop
 |.go _=>False
 |.en=>False
 |.pt a t=>(0≤t∧t<1000)∧jU a
 |.rk x s a b=>RV (.rk x s a b)
 |.cp x a=>RV (.cp x a)
 |.sy a=>RV (.sy a)
theorem Fx{x:Row}(h:tJ x):RV x:=by
 cases x with
 |go _=>exact trivial
 |en=>exact trivial
 |pt a t=>exact h.2
 |rk x s a b=>exact h
 |cp x a=>exact h
 |sy a=>exact h
theorem UU(c:Int)(ns:List Str)(hv:∀z∈ns,nameS z=true)(h1:0<ns.length)(h2:ns.length≤50):∃r:Row,r6 [.int c,.lst (ns.map .str)]=some (.fr,r.d)∧tJ r:=by
 obtain⟨ds,ed,hp⟩:=N9 c [12,(ns.length:Int),8,(ns.length:Int)+2,(ns.length:Int)+2] (by
  intro m hm
  simp only[List.mem_cons,List.not_mem_nil,or_false]at hm
  omega) (by show 5≤50;decide)
 cases hp with|@cons _ dk _ ds hk hp =>
 cases hp with|@cons _ dx _ ds hx hp =>
 cases hp with|@cons _ ZD _ ds Mg hp =>
 cases hp with|@cons _ da _ ds ha hp =>
 cases hp with|@cons _ db _ ds hb hp =>
 cases hp
 obtain⟨ka,ea,va⟩:=zr da c ns hv ha.1
 obtain⟨kb,eb,vb⟩:=zr db (c/7) ns hv hb.1
 obtain⟨x,ex,xm⟩:=zA hx.1 hx.2
 obtain⟨sg,YG,vs,vl⟩:=UR (m:=.fr) (n:=.fr) Mg.1 Mg.2
 simp only[List.map_cons,List.map_nil]at ed
 have Mh:=qi ka
 have ZE:=qi kb
 unfold r6 fn EV
 walk_at "ev"
 rw[ed]
 walk_at "ev"
 rw[ea]
 walk_at "ev"
 by_cases g1:dk<7
 ·refine⟨.rk x sg ka kb,?_,hv x xm,⟨vs,vl⟩,va,vb⟩
  simp only[g1,ex]
  walk_at "ev"
  rw[YG]
  walk_at "ev"
  rw[eb]
  walk_at "ev"
  rfl
 ·simp only[g1]
  walk_at "ev"
  by_cases g2:dk<9
  ·refine⟨.cp x ka,?_,hv x xm,va⟩
   simp only[g2,ex]
   walk_at "ev"
   rfl
  ·simp only[g2]
   walk_at "ev"
   by_cases g3:dk=9
   ·refine⟨.sy ka,?_,va⟩
    simp only[g3]
    walk_at "ev"
    rfl
   ·refine⟨.pt ka (c/5%1000),?_,⟨cQ _ (by decide),di _ (by decide)⟩,va⟩
    simp only[g3]
    walk_at "ev"
    rfl
def qB(os:List Int)(x:Row):Prop:=x=.en∨(∃o∈os,x=.go o)∨∃k:Int,0≤k∧k<1000∧x=.go (-1-k)
theorem vK(rs:List Row)(x:Row):rs.map Row.d++[x.d]=(rs++[x]).map Row.d:=by rw[dh];rfl
theorem Ar(t:Int):D.tup [.str "go",.int t]=Row.d (.go t):=rfl
theorem wB(a:Ko)(t:Int):D.tup [.str "part",kD a,.int t]=Row.d (.pt a t):=rfl
theorem PZ(rs:List Row)(b:Nat)(a:Ko)(t:Int)(hb:rs[b]?=some (.pt a t))(x:Row)(c:Int)(os:List Int)(hl:rs.length≤900) :
  qe 0 (jV 1) (ck (ag (jC (.str "part")) (ag (ae aj (ae aj (jV 0) (jV 1)) (jC (.int 1))) (ag (aD bI (ag (jV 0) ah)) ah)))) [some (.bi,.lst ((rs++[x]).map Row.d)),some (.al,.int b),some (.al,.int c),some (.bi,.lst (os.map .int))] =
   some (.nx [some (.bi,.lst (((rs++[x]).set b (.pt a ((rs.length:Int)+1))).map Row.d)),some (.al,.int b),some (.al,.int c),some (.bi,.lst (os.map .int))]):=by
 have aT:b<rs.length:=(bt.mp hb).1
 have Xh:b<(rs++[x]).length:=by rw[b9];omega
 have gU:L2.aX ((rs++[x]).map Row.d) (b:Int)=some (Row.d (.pt a t)):=by
  rw[gY (by rw[aU];exact Xh),lX,List.getElem_append_left aT]
  rw[bO aT]at hb
  rw[c9 hb]
 have Dy:dF ((rs++[x]).map Row.d).length (b:Int)=some b:=by
  unfold dF
  rw[aU,if_pos (by omega),if_pos (by omega)]
  simp
 have h1:∀{m n:M},aj (m,Row.d (.pt a t)) (n,.int 1)=some (aG m,kD a):=fun {m n}=>rfl
 have ka:=qi a
 have hlen:(((rs++[x]).map Row.d).length:Int)=(rs.length:Int)+1:=by rw[aU,b9];rfl
 have es:∀w:Row,((rs++[x]).map Row.d).set b w.d=((rs++[x]).set b w).map Row.d:=fun w=>by rw[List.map_set]
 generalize hR:(rs++[x]).map Row.d=R at gU Dy hlen es ⊢
 generalize (b:Int)=bb at gU Dy ⊢
 walk_at "ev"
 rw[gU]
 walk_at "ev"
 rw[h1]
 walk_at "ev"
 simp only[own,aG]
 rw[hlen,Dy]
 walk_at "ev"
 rw[wB,es]
theorem P0(a b c d:D):ik [0,3] [a,b,c,d]=[some (.bi,a),some (.al,b),some (.al,c),some (.bi,d)]:=rfl
theorem RZ(rs:List Row)(b:Nat)(a:Ko)(t:Int)(hb:rs[b]?=some (.pt a t))(c:Int)(os:List Int)(ho:os≠[])(hl:rs.length≤900) :
  ∃x,qB os x∧lA [.lst (rs.map Row.d),.int b,.int c,.lst (os.map .int)]=some (.fr,.non,[.lst (((rs++[x]).set b (.pt a ((rs.length:Int)+1))).map Row.d),.lst (os.map .int)]):=by
 have Mi:(0:Int)<os.length:=by
  cases os with
  |nil=>exact absurd rfl ho
  |cons o os=>simp only[List.length_cons];omega
 have fin:∀x:Row,kg [0,3] (.nx [some (.bi,.lst (((rs++[x]).set b (.pt a ((rs.length:Int)+1))).map Row.d)),some (.al,.int b),some (.al,.int c),some (.bi,.lst (os.map .int))])=some (.fr,.non,[.lst (((rs++[x]).set b (.pt a ((rs.length:Int)+1))).map Row.d),.lst (os.map .int)]):=fun x=>by
  simp only[kg,out,envOf,J.collect,List.getElem?_cons_zero,List.getElem?_cons_succ,dZ,sj,gW,if_true,Option.bind_some]
 have hsl:(rs.map Row.d).length<sizeLine:=by rw[aU];exact dJ hl (by decide)
 have se:=fun x=>PZ rs b a t hb x c os hl
 have app:∀{f:Ev→Option (M×D)}{x:Row},f [some (.bi,.lst (rs.map Row.d)),some (.al,.int b),some (.al,.int c),some (.bi,.lst (os.map .int))]=some (.fr,x.d) →
   bN 0 f [some (.bi,.lst (rs.map Row.d)),some (.al,.int b),some (.al,.int c),some (.bi,.lst (os.map .int))]=some (.nx [some (.bi,.lst ((rs++[x]).map Row.d)),some (.al,.int b),some (.al,.int c),some (.bi,.lst (os.map .int))]):=fun {f x} hf=>by
  simp -implicitDefEqProofs only [bN,hf,Option.bind_some,wg,if_true,gO,own,List.getElem?_cons_zero,hsl,List.set_cons_zero,vK]
 have go:∀{x:Row},qB os x→(aL (jB (ae aQ (ae aY (ae bD (jV 2) (jC (.int 3))) (jC (.int 3))) (jC (.int 0)))) (bN 0 (ck (ag (jC (.str "end")) ah)))
   (aL (jB (ae aQ (ae aY (ae bD (jV 2) (jC (.int 3))) (jC (.int 3))) (jC (.int 1)))) (bN 0 (ck (ag (jC (.str "go")) (ag (ae aj (jV 3) (ae aY (ae bD (jV 2) (jC (.int 9))) (aD bI (ag (jV 3) ah)))) ah))))
   (bN 0 (ck (ag (jC (.str "go")) (ag (ae fj (cV eQ (jC (.int 1))) (ae aY (ae bD (jV 2) (jC (.int 9))) (jC (.int 1000)))) ah)))))) [some (.bi,.lst (rs.map Row.d)),some (.al,.int b),some (.al,.int c),some (.bi,.lst (os.map .int))]=some (.nx [some (.bi,.lst ((rs++[x]).map Row.d)),some (.al,.int b),some (.al,.int c),some (.bi,.lst (os.map .int))]) →
   ∃x,qB os x∧lA [.lst (rs.map Row.d),.int b,.int c,.lst (os.map .int)]=some (.fr,.non,[.lst (((rs++[x]).set b (.pt a ((rs.length:Int)+1))).map Row.d),.lst (os.map .int)]):=fun {x} hx h=>by
  refine⟨x,hx,?_⟩
  unfold lA jt Er
  rw[P0,cz,cz,cz,cz,uk,Nat.sub_self,List.replicate_zero,oV,aN h,se x,aB,fin x]
 have tK:∀k:Int,(jB (ae aQ (ae aY (ae bD (jV 2) (jC (.int 3))) (jC (.int 3))) (jC (.int k)))) [some (.bi,.lst (rs.map Row.d)),some (.al,.int b),some (.al,.int c),some (.bi,.lst (os.map .int))]=some (decide (c/3%3=k)):=fun k=>by
  walk_at "ev"
 by_cases h0:c/3%3=0
 ·refine go (x:=.en) (.inl rfl) ?_
  rw[dC (by rw[tK,h0];rfl)]
  exact app (by walk_at "ev"; rfl)
 ·by_cases h1:c/3%3=1
  ·have q0:=cQ (c/9) (show(os.length:Int)≠0 by omega)
   have q1:=di (c/9) Mi
   have gU:L2.aX (os.map D.int) (c/9%os.length)=some (.int (os[(c/9%os.length).toNat]'(by omega))):=by
    rw[i6 q0 (by rw[aU];exact q1)];simp
   refine go (x:=.go (os[(c/9%os.length).toNat]'(by omega))) (.inr (.inl ⟨_,qW _,rfl⟩)) ?_
   rw[bj (by rw[tK];simp only[h0,decide_false]),dC (by rw[tK,h1];rfl)]
   refine app ?_
   walk_at "ev"
   rw[fE Mi]
   walk_at "ev"
   rw[gU]
   walk_at "ev"
   simp only[aG,bM,D.bx]
   walk_at "ev"
   rfl
  ·refine go (x:=.go (-1-c/9%1000)) (.inr (.inr ⟨_,cQ _ (by decide),di _ (by decide),rfl⟩)) ?_
   rw[bj (by rw[tK];simp only[h0,decide_false]),bj (by rw[tK];simp only[h1,decide_false])]
   exact app (by walk_at "ev"; rfl)
noncomputable def Row.cI:Row→Bool
 |.go _=>true
 |_=>false
noncomputable def Row.cS:Row→Bool
 |.pt _ _=>true
 |_=>false
noncomputable def Row.cw:Row→Bool
 |.en=>true
 |_=>false
theorem iM(r:Row):decide (r.word=("go" : Str))=Row.cI r:=by
 cases r with
 |rk x s a b=>exact(by decide +kernel:decide (("reckon" : Str) = "go")=false)
 |cp x a=>exact(by decide +kernel:decide (("copy" : Str) = "go")=false)
 |sy a=>exact(by decide +kernel:decide (("say" : Str) = "go")=false)
 |go t=>exact(by decide +kernel:decide (("go" : Str) = "go")=true)
 |pt a t=>exact(by decide +kernel:decide (("part" : Str) = "go")=false)
 |en=>exact(by decide +kernel:decide (("end" : Str) = "go")=false)
theorem iN(r:Row):decide (r.word=("part" : Str))=Row.cS r:=by
 cases r with
 |rk x s a b=>exact(by decide +kernel:decide (("reckon" : Str) = "part")=false)
 |cp x a=>exact(by decide +kernel:decide (("copy" : Str) = "part")=false)
 |sy a=>exact(by decide +kernel:decide (("say" : Str) = "part")=false)
 |go t=>exact(by decide +kernel:decide (("go" : Str) = "part")=false)
 |pt a t=>exact(by decide +kernel:decide (("part" : Str) = "part")=true)
 |en=>exact(by decide +kernel:decide (("end" : Str) = "part")=false)
theorem jz(r:Row):decide (r.word=("end" : Str))=Row.cw r:=by
 cases r with
 |rk x s a b=>exact(by decide +kernel:decide (("reckon" : Str) = "end")=false)
 |cp x a=>exact(by decide +kernel:decide (("copy" : Str) = "end")=false)
 |sy a=>exact(by decide +kernel:decide (("say" : Str) = "end")=false)
 |go t=>exact(by decide +kernel:decide (("go" : Str) = "end")=false)
 |pt a t=>exact(by decide +kernel:decide (("part" : Str) = "end")=false)
 |en=>exact(by decide +kernel:decide (("end" : Str) = "end")=true)
theorem ib(m n:M)(r:Row):aj (m,r.d) (n,.int 0)=some (aG m,.str r.word):=by
 show(L2.aX r.ds 0).map (fun d=>(aG m,d))=_
 rw[Row.rF];rfl
noncomputable def cN(many n:Int):Row→Row
 |.go t=>if t<0 then .go (n+1+(-1-t)%(many-n-1))else .go t
 |.pt a t=>.pt a (if t%many=n+1 then n else t%many)
 |r=>r
theorem Oa(many n:Int)(hm:0<many)(r:Row)(hr:∀t,r=.go t→n+1<many)(rows:M×D)(fs:List Row)(hf:fs.length≤900)(o:Option (M×D)) :
  ∃m o',vq [some rows,some (.fr,.int many),some (.bo,.lst (fs.map Row.d)),some (.al,.int n),some (.al,r.d),o]=some (.nx [some rows,some (.fr,.int many),some (.bo,.lst ((fs++[cN many n r]).map Row.d)),some (.al,.int n),some (m,(cN many n r).d),o']):=by
 have hsl:(fs.map Row.d).length<sizeLine:=by rw[aU];exact dJ hf (by decide)
 rw[aU]at hsl
 have ap:∀x:Row,fs.map Row.d++[x.d]=(fs++[x]).map Row.d:=vK fs
 unfold vq
 simp -implicitDefEqProofs only [aw,aL,bY,jB,ae,jV,jC,List.getElem?_cons_zero,List.getElem?_cons_succ,Option.bind_some,id_eq,ib,dQ,bR,iM,iN]
 cases r with
 |go t =>
  simp only[Row.cI,Row.cS]
  have h1:∀{m n:M},aj (m,Row.d (.go t)) (n,.int 1)=some (aG m,.int t):=fun {m n}=>rfl
  by_cases ht:t<0
  ·have hp:0<many-n-1:=by have:=hr t rfl;omega
   refine⟨.fr,o,?_⟩
   simp only[cN,if_pos ht]
   walk_at "ev"
   rw[h1]
   walk_at "ev"
   simp only[ht]
   walk_at "ev"
   rw[fE hp]
   walk_at "ev"
   simp -implicitDefEqProofs only [hsl,Ar,ap,if_true]
  ·refine⟨.al,o,?_⟩
   simp only[cN,if_neg ht]
   walk_at "ev"
   rw[h1]
   walk_at "ev"
   simp only[ht]
   walk_at "ev"
   simp -implicitDefEqProofs only [Row.bx,hsl,ap,if_true]
 |pt a t =>
  simp only[Row.cI,Row.cS]
  have h1:∀{m n:M},aj (m,Row.d (.pt a t)) (n,.int 1)=some (aG m,kD a):=fun {m n}=>rfl
  have h2:∀{m n:M},aj (m,Row.d (.pt a t)) (n,.int 2)=some (aG m,.int t):=fun {m n}=>rfl
  have ka:=qi a
  have gU:L2.aX [D.int (t%many),D.int n] (if decide (t%many=n+1)=true then 1 else 0)=some (.int (if t%many=n+1 then n else t%many)):=by
   by_cases h:t%many=n+1
   ·simp[h];rfl
   ·simp[h];rfl
  refine⟨.fr,some (.fr,.int (t%many)),?_⟩
  simp only[cN]
  walk_at "ev"
  rw[h2]
  walk_at "ev"
  rw[fE hm]
  walk_at "ev"
  rw[h1]
  walk_at "ev"
  rw[gU]
  walk_at "ev"
  simp only[ka]
  walk_at "ev"
  simp -implicitDefEqProofs only [wB,hsl,ap,if_true]
 |rk x s a b =>
  refine⟨.al,o,?_⟩
  simp only[Row.cI,Row.cS,cN]
  walk_at "ev"
  simp -implicitDefEqProofs only [Row.bx,hsl,ap,if_true]
 |cp x a =>
  refine⟨.al,o,?_⟩
  simp only[Row.cI,Row.cS,cN]
  walk_at "ev"
  simp -implicitDefEqProofs only [Row.bx,hsl,ap,if_true]
 |sy a =>
  refine⟨.al,o,?_⟩
  simp only[Row.cI,Row.cS,cN]
  walk_at "ev"
  simp -implicitDefEqProofs only [Row.bx,hsl,ap,if_true]
 |en =>
  refine⟨.al,o,?_⟩
  simp only[Row.cI,Row.cS,cN]
  walk_at "ev"
  simp -implicitDefEqProofs only [Row.bx,hsl,ap,if_true]
theorem R0{rs:List Row}{i:Nat}{d:D}(h:(cH (rs.map Row.d))[i]?=some d):∃r,rs[i]?=some r∧d=.tup [.int i,r.d]:=by
 unfold cH at h
 rw[qY,cE]at h
 cases e:rs[i]? with
 |none=>rw[e]at h;cases h
 |some r=>rw[e]at h;cases h;exact⟨r,rfl,rfl⟩
noncomputable def bS(rs:List Row):List Row:=rs.mapIdx fun(i:Nat) r=>cN rs.length i r
theorem Ob(rs:List Row)(h0:0<rs.length)(hl:rs.length≤900)(hr:∀(i:Nat) t,rs[i]?=some (.go t)→i+1<rs.length):rQ [.lst (rs.map Row.d)]=some (.un,.lst ((bS rs).map Row.d)):=by
 have l1:=og (g:=gT 2 (b8 (gN 3) (b8 (gN 4) fG))) (b:=vq) (m:=.al) (ds:=cH (rs.map Row.d)) (e:=[some (.al,.lst (rs.map Row.d)),some (.fr,.int (rs.length:Int)),some (.bo,.lst []),none,none,none])
  (fun i e=>∃(o1 o2 o3:Option (M×D)),e=[some (.al,.lst (rs.map Row.d)),some (.fr,.int (rs.length:Int)),some (.bo,.lst (((bS rs).take i).map Row.d)),o1,o2,o3])
  ⟨none,none,none,by rw[List.take_zero];rfl⟩
  (fun i d e hd ⟨o1,o2,o3,he⟩=>by
   subst he
   obtain⟨r,Dz,rfl⟩:=R0 hd
   have hi:i<rs.length:=(bt.mp Dz).1
   have YH:(bS rs)[i]?=some (cN rs.length i r):=by
    unfold bS;rw[qY,Dz];rfl
   obtain⟨m,o',q⟩:=Oa rs.length i (by omega) r (fun t e=>by have:=hr i t (by rw[Dz,e]);omega) (.al,.lst (rs.map Row.d)) ((bS rs).take i) (by rw[kH];omega) o3
   exact⟨_,_,rfl,q,some (.al,.int i),some (m,(cN rs.length i r).d),o',by rw[My.take_snoc YH]⟩)
 obtain⟨e',l1,o1,o2,o3,rfl⟩:=l1
 have hL:(cH (rs.map Row.d)).length=(bS rs).length:=by simp[cH,bS]
 rw[hL,List.take_of_length_le (aR _)]at l1
 unfold rQ fn DQ
 walk_at "ev"
 simp -implicitDefEqProofs only [pG,ag,jV,ah,List.getElem?_cons_zero,Option.bind_some,id_eq,ia,Option.map_some]
 rw[l1]
 walk_at "ev"
noncomputable def bump:Row→Row
 |.go t=>.go (t+1)
 |.pt a t=>.pt a (t+1)
 |r=>r
theorem Xi(r:Row):dW (.str r.word) [.str "go",.str "part"]=(Row.cI r||Row.cS r):=by
 cases r with
 |rk x s a b=>exact(by decide +kernel:dW (.str "reckon") [.str "go",.str "part"]=false)
 |cp x a=>exact(by decide +kernel:dW (.str "copy") [.str "go",.str "part"]=false)
 |sy a=>exact(by decide +kernel:dW (.str "say") [.str "go",.str "part"]=false)
 |go t=>exact(by decide +kernel:dW (.str "go") [.str "go",.str "part"]=true)
 |pt a t=>exact(by decide +kernel:dW (.str "part") [.str "go",.str "part"]=true)
 |en=>exact(by decide +kernel:dW (.str "end") [.str "go",.str "part"]=false)
theorem Wc(m:M)(t:Int):eW (m,Row.d (.go t)) none (some (-1))=some (aG m,.tup [.str "go"]):=rfl
theorem Wd(m:M)(a:Ko)(t:Int):eW (m,Row.d (.pt a t)) none (some (-1))=some (aG m,.tup [.str "part",kD a]):=rfl
theorem UW(m n:M)(t:Int):aj (m,Row.d (.go t)) (n,.int (-1))=some (aG m,.int t):=rfl
theorem UX(m n:M)(a:Ko)(t:Int):aj (m,Row.d (.pt a t)) (n,.int (-1))=some (aG m,.int t):=rfl
theorem MN(r:Row)(rows nm many:Option (M×D))(fs:List Row)(hf:fs.length≤900):∃m,vv [rows,nm,many,some (.bo,.lst (fs.map Row.d)),some (.fr,r.d)]=some (.nx [rows,nm,many,some (.bo,.lst ((fs++[bump r]).map Row.d)),some (m,(bump r).d)]):=by
 have hsl:fs.length<sizeLine:=dJ hf (by decide)
 have ap:∀x:Row,fs.map Row.d++[x.d]=(fs++[x]).map Row.d:=vK fs
 unfold vv
 simp -implicitDefEqProofs only [aw,aL,jB,ae,jV,jC,ck,ag,ah,tE,List.getElem?_cons_zero,List.getElem?_cons_succ,Option.bind_some,id_eq,ib,bR,List.length_cons,List.length_nil,Nat.reduceAdd,rE,Nat.reduceLeDiff,List.all_cons,List.all_nil,wg,Bool.and_self,if_true,List.map_cons,List.map_nil,oN,cW,qI,qH,Xi,Bool.false_eq_true,if_false]
 cases r with
 |go t =>
  refine⟨.fr,?_⟩
  simp only[Row.cI,Row.cS,bump,Bool.or_false]
  walk_at "ev"
  simp -implicitDefEqProofs only [gj,gu,fF,cV,jV,jC,List.getElem?_cons_zero,List.getElem?_cons_succ,id_eq,wV,Int.reduceNeg,qg,Option.map_some,Option.bind_some,Wc,UW,wj]
  walk_at "ev"
  rw[G9 (by simp[aG]) (by simp[aG]) (by simp only[List.length_cons,List.length_nil];exact bQ (show 0+1+(0+1)≤1000 by decide) (by decide))]
  walk_at "ev"
  simp only[mJ,aG]
  walk_at "ev"
  simp -implicitDefEqProofs only [Ar,hsl,ap,if_true]
 |pt a t =>
  refine⟨.fr,?_⟩
  simp only[Row.cI,Row.cS,bump,Bool.false_or]
  walk_at "ev"
  simp -implicitDefEqProofs only [gj,gu,fF,cV,jV,jC,List.getElem?_cons_zero,List.getElem?_cons_succ,id_eq,wV,Int.reduceNeg,qg,Option.map_some,Option.bind_some,Wd,UX,wj]
  walk_at "ev"
  rw[G9 (by simp[aG]) (by simp[aG]) (by simp only[List.length_cons,List.length_nil];exact bQ (show 0+1+1+(0+1)≤1000 by decide) (by decide))]
  walk_at "ev"
  simp only[mJ,aG]
  walk_at "ev"
  simp -implicitDefEqProofs only [wB,hsl,ap,if_true]
 |rk x s a b =>
  refine⟨.fr,?_⟩
  simp only[Row.cI,Row.cS,bump,Bool.or_false]
  walk_at "ev"
  simp -implicitDefEqProofs only [hsl,ap,if_true]
 |cp x a =>
  refine⟨.fr,?_⟩
  simp only[Row.cI,Row.cS,bump,Bool.or_false]
  walk_at "ev"
  simp -implicitDefEqProofs only [hsl,ap,if_true]
 |sy a =>
  refine⟨.fr,?_⟩
  simp only[Row.cI,Row.cS,bump,Bool.or_false]
  walk_at "ev"
  simp -implicitDefEqProofs only [hsl,ap,if_true]
 |en =>
  refine⟨.fr,?_⟩
  simp only[Row.cI,Row.cS,bump,Bool.or_false]
  walk_at "ev"
  simp -implicitDefEqProofs only [hsl,ap,if_true]
noncomputable def Row.plain:Row→Prop
 |.go _=>False
 |.en=>False
 |_=>True
theorem Ea{x:Row}(h:tJ x):Row.plain x:=by cases x<;>first|exact h.elim|exact trivial
structure PX (rs:List Row)(os:List Int)(bg:Option Nat):Prop where
 ol:∀x∈os,∃n:Nat,x=(n:Int)∧n<rs.length
 oc:∀n:Nat,(n:Int)∈os→bg≠some n→∃k:Nat,n<k∧((k:Int)∈os∨(k=rs.length∧bg=none))∧((k=n+1∧∃r,rs[n]?=some r∧Row.plain r)∨(n+1<k∧∃a,rs[n]?=some (.pt a (k:Int))))
 bo:∀n,bg=some n→(n:Int)∈os∧n<rs.length
 s:∀(i:Nat) r,rs[i]?=some r→¬Row.plain r→∃b a,b<i∧rs[b]?=some (.pt a ((i+1:Nat):Int))∧bg≠some b
 gt:∀(i:Nat) t,rs[i]?=some (.go t)→0≤t→t∈os
 v:∀r∈rs,RV r
theorem PX.nil:PX [] [] none:=by
 refine⟨fun x h=>(nomatch h),fun n h=>(nomatch h),fun n h=>(nomatch h),fun i r h=>?_,fun i t h=>?_,fun r h=>(nomatch h)⟩
 ·rw[List.getElem?_nil]at h;cases h
 ·rw[List.getElem?_nil]at h;cases h
theorem pX{rs:List Row}{x r:Row}{i:Nat}(h:rs[i]?=some r):(rs++[x])[i]?=some r:=by
 rw[lU (bt.mp h).1];exact h
theorem pV{rs:List Row}{x r:Row}{i:Nat}(h:(rs++[x])[i]?=some r):rs[i]?=some r∨(i=rs.length∧r=x):=by
 rw[List.getElem?_append]at h
 split at h
 ·exact .inl h
 ·rename_i hi
  have:i-rs.length=0:=by
   rcases Nat.eq_zero_or_pos (i-rs.length)with z|z
   ·exact z
   ·rw[jG (by simp;omega)]at h;cases h
  rw[this]at h
  simp at h
  exact .inr ⟨by omega,h.symm⟩
theorem zZ{rs:List Row}{x:Row}{n k:Nat}(h:(k=n+1∧∃r,rs[n]?=some r∧Row.plain r)∨(n+1<k∧∃a,rs[n]?=some (.pt a (k:Int)))):(k=n+1∧∃r,(rs++[x])[n]?=some r∧Row.plain r)∨(n+1<k∧∃a,(rs++[x])[n]?=some (.pt a (k:Int))):=by
 rcases h with⟨e,r,h1,h2⟩|⟨e,a,h1⟩
 ·exact .inl ⟨e,r,pX h1,h2⟩
 ·exact .inr ⟨e,a,pX h1⟩
theorem vZ{rs:List Row}{x:Row}(h:∀r∈rs,RV r)(hx:RV x):∀r∈rs++[x],RV r:=fun r hr=>by
 rcases fX.mp hr with z|z
 ·exact h r z
 ·rw[List.mem_singleton]at z;subst z;exact hx
theorem PX.row{rs:List Row}{os:List Int}{bg:Option Nat}{x:Row}(h:PX rs os bg)(hx:tJ x):PX (rs++[x]) (if bg=none then os++[(rs.length:Int)] else os) bg:=by
 have hl:(rs++[x]).length=rs.length+1:=by simp
 have ss:∀(i:Nat) r,(rs++[x])[i]?=some r→¬Row.plain r→∃b a,b<i∧(rs++[x])[b]?=some (.pt a ((i+1:Nat):Int))∧bg≠some b:=fun i r hi hp=>by
  rcases pV hi with z|⟨_,z⟩
  ·obtain⟨b,a,h1,h2,h3⟩:=h.s i r z hp
   exact⟨b,a,h1,pX h2,h3⟩
  ·subst z;exact absurd (Ea hx) hp
 cases bg with
 |none =>
  simp only[if_true]
  refine⟨fun y hy=>?_,fun n hn _=>?_,fun n hn=>(nomatch hn),ss,fun i t hi h0=>?_,vZ h.v (Fx hx)⟩
  ·rcases fX.mp hy with z|z
   ·obtain⟨n,e,hn⟩:=h.ol y z;exact⟨n,e,by omega⟩
   ·have:y=rs.length:=by simpa using z
    exact⟨rs.length,this,by omega⟩
  ·rcases fX.mp hn with z|z
   ·obtain⟨k,k1,k2,k3⟩:=h.oc n z (fun z=>nomatch z)
    refine⟨k,k1,.inl ?_,zZ k3⟩
    rcases k2 with k2|⟨k2,_⟩
    ·exact uh _ k2
    ·rw[k2];simp
   ·have:n=rs.length:=Int.ofNat_inj.mp (by simpa using z)
    subst this
    exact⟨rs.length+1,by omega,.inr ⟨hl.symm,rfl⟩,.inl ⟨rfl,x,by simp,Ea hx⟩⟩
  ·rcases pV hi with z|⟨_,z⟩
   ·exact uh _ (h.gt i t z h0)
   ·subst z;exact hx.elim
 |some b =>
  simp only[reduceCtorEq,if_false]
  refine⟨fun y hy=>?_,fun n hn hb=>?_,fun n hn=>?_,ss,fun i t hi h0=>?_,vZ h.v (Fx hx)⟩
  ·obtain⟨n,e,hn⟩:=h.ol y hy;exact⟨n,e,by omega⟩
  ·obtain⟨k,k1,k2,k3⟩:=h.oc n hn hb
   refine⟨k,k1,.inl ?_,zZ k3⟩
   rcases k2 with k2|⟨_,k2⟩
   ·exact k2
   ·cases k2
  ·obtain⟨a1,a2⟩:=h.bo n hn;exact⟨a1,by omega⟩
  ·rcases pV hi with z|⟨_,z⟩
   ·exact h.gt i t z h0
   ·subst z;exact hx.elim
theorem PX.open{rs:List Row}{os:List Int}{a:Ko}(h:PX rs os none)(ha:jU a):PX (rs++[.pt a 0]) (os++[(rs.length:Int)]) (some rs.length):=by
 have hl:(rs++[Row.pt a 0]).length=rs.length+1:=by simp
 have q:=h.row (x:=.pt a 0) ⟨⟨by decide,by decide⟩,ha⟩
 simp only[if_true]at q
 refine⟨q.ol,fun n hn hb=>?_,fun n hn=>?_,fun i r hi hp=>?_,q.gt,q.v⟩
 ·rcases fX.mp hn with z|z
  ·obtain⟨k,k1,k2,k3⟩:=h.oc n z (fun z=>nomatch z)
   refine⟨k,k1,.inl ?_,zZ k3⟩
   rcases k2 with k2|⟨k2,_⟩
   ·exact uh _ k2
   ·rw[k2];simp
  ·have:n=rs.length:=Int.ofNat_inj.mp (by simpa using z)
   subst this;exact absurd rfl hb
 ·cases hn;exact⟨by simp,by omega⟩
 ·rcases pV hi with z|⟨_,z⟩
  ·obtain⟨b,a',h1,h2,_⟩:=h.s i r z hp
   have:=(bt.mp z).1
   exact⟨b,a',h1,pX h2,fun e=>by cases e;omega⟩
  ·subst z;exact absurd trivial hp
theorem PX.shut{rs:List Row}{os:List Int}{b:Nat}{a:Ko}{t:Int}{x:Row}(h:PX rs os (some b))(hb:rs[b]?=some (.pt a t))(hx:qB os x):PX ((rs++[x]).set b (.pt a ((rs.length:Int)+1))) os none:=by
 have aT:b<rs.length:=(bt.mp hb).1
 have hl:((rs++[x]).set b (.pt a ((rs.length:Int)+1))).length=rs.length+1:=by simp
 have lj:((rs++[x]).set b (.pt a ((rs.length:Int)+1)))[b]?=some (.pt a ((rs.length+1:Nat):Int)):=by
  rw[List.getElem?_set_self (by simp;omega)];rfl
 have DB:∀{n:Nat}{r:Row},n≠b→rs[n]?=some r→((rs++[x]).set b (.pt a ((rs.length:Int)+1)))[n]?=some r:=fun {n r} hn hr=>by
  rw[cU (fun z=>hn z.symm)];exact pX hr
 refine⟨fun y hy=>?_,fun n hn _=>?_,fun n hn=>(nomatch hn),fun i r hi hp=>?_,fun i t' hi h0=>?_,fun r hr=>?_⟩
 ·obtain⟨n,e,hn⟩:=h.ol y hy;exact⟨n,e,by omega⟩
 ·by_cases e:n=b
  ·subst e
   exact⟨rs.length+1,by omega,.inr ⟨hl.symm,rfl⟩,.inr ⟨by omega,a,lj⟩⟩
  ·obtain⟨k,k1,k2,k3⟩:=h.oc n hn (fun z=>e (c9 z).symm)
   refine⟨k,k1,?_,?_⟩
   ·rcases k2 with k2|⟨_,k2⟩
    ·exact .inl k2
    ·cases k2
   ·rcases k3 with⟨e1,r,h1,h2⟩|⟨e1,a',h1⟩
    ·exact .inl ⟨e1,r,DB e h1,h2⟩
    ·exact .inr ⟨e1,a',DB e h1⟩
 ·rcases get_set hi with⟨_,z⟩|⟨ne,z⟩
  ·subst z;exact absurd trivial hp
  ·rcases pV z with z|⟨e,z⟩
   ·obtain⟨b',a',h1,h2,h3⟩:=h.s i r z hp
    exact⟨b',a',h1,DB (fun e=>h3 (by rw[e])) h2,fun e=>nomatch e⟩
   ·subst e
    exact⟨b,a,aT,lj,fun e=>nomatch e⟩
 ·rcases get_set hi with⟨_,z⟩|⟨ne,z⟩
  ·cases z
  ·rcases pV z with z|⟨_,z⟩
   ·exact h.gt i t' z h0
   ·subst z
    rcases hx with z|⟨o,ho,z⟩|⟨k,k0,k1,z⟩
    ·cases z
    ·cases z;exact ho
    ·cases z;omega
 ·rcases List.mem_or_eq_of_mem_set hr with z|z
  ·refine vZ h.v ?_ r z
   rcases hx with z|⟨o,ho,z⟩|⟨k,k0,k1,z⟩<;>(subst z;exact trivial)
  ·subst z;exact(show RV (.pt a t)from h.v _ (fB hb))
theorem P1{α:Type}(l:List α):cut l none (some (-1))=l.dropLast:=by
 unfold cut HT.aS
 simp only[List.drop_zero,Nat.sub_zero]
 rw[List.dropLast_eq_take]
 congr 1
 have:(-1:Int)<0:=by decide
 rw[if_pos this]
 omega
noncomputable def b7(rs:List Row)(nm:Str):List Row:=.go rs.length::(rs.dropLast.map bump++[.pt (.inr nm) 1,.en])
theorem Oc(rs:List Row)(nm:Str)(hl:rs.length≤800):rV [.lst (rs.map Row.d),.str nm]=some (.un,.lst ((b7 rs nm).map Row.d)):=by
 have l1:=og (g:=gN 4) (b:=vv) (m:=.fr) (ds:=rs.dropLast.map Row.d) (e:=[some (.al,.lst (rs.map Row.d)),some (.al,.str nm),some (.fr,.int (rs.length:Int)),some (.bo,.lst [Row.d (.go rs.length)]),none])
  (fun i e=>∃(o1:Option (M×D)),e=[some (.al,.lst (rs.map Row.d)),some (.al,.str nm),some (.fr,.int (rs.length:Int)),some (.bo,.lst ((.go rs.length::(rs.dropLast.map bump).take i).map Row.d)),o1])
  ⟨none,by rw[List.take_zero];rfl⟩
  (fun i d e hd ⟨o1,he⟩=>by
   subst he
   rw[cE]at hd
   cases hm:rs.dropLast[i]? with
   |none=>rw[hm]at hd;cases hd
   |some r =>
    rw[hm]at hd
    cases hd
    have hi:i<rs.dropLast.length:=(bt.mp hm).1
    rw[List.length_dropLast]at hi
    have hb:(rs.dropLast.map bump)[i]?=some (bump r):=by rw[cE,hm];rfl
    obtain⟨m,q⟩:=MN r (some (.al,.lst (rs.map Row.d))) (some (.al,.str nm)) (some (.fr,.int (rs.length:Int))) (.go rs.length::(rs.dropLast.map bump).take i) (by rw[cz,kH];omega)
    exact⟨_,_,rfl,q,some (m,(bump r).d),by rw[My.take_snoc hb];rfl⟩)
 obtain⟨e',l1,o1,rfl⟩:=l1
 have hL:(rs.dropLast.map Row.d).length=(rs.dropLast.map bump).length:=by simp
 rw[hL,List.take_of_length_le (aR _)]at l1
 have hs:eW (.al,.lst (rs.map Row.d)) none (some (-1))=some (.un,.lst (rs.dropLast.map Row.d)):=by
  show(match oK (.al,.lst (rs.map Row.d)) none (some (-1)) with|some z=>some z|none=>_)=_
  rw[show oK (.al,.lst (rs.map Row.d)) none (some (-1))=some (.un,.lst (rs.dropLast.map Row.d)) by
   simp only[oK,P1,←List.map_dropLast];exact Hj (sj _)]
 have hc:aW (.bo,.lst ((.go rs.length::rs.dropLast.map bump).map Row.d)) (.un,.lst [.tup [.str "part",.str nm,.int 1],.tup [.str "end"]])=some (.un,.lst ((b7 rs nm).map Row.d)):=by
  rw[qf (by simp[aG]) (by simp[aG]) (by
   simp only[List.length_map,List.length_cons,List.length_nil,List.length_dropLast]
   exact bQ (show rs.length-1+1+(0+1+1)≤1000 by omega) (by decide)),AG,Ag]
  simp only[b7,List.map_cons,List.map_append,List.map_nil,List.cons_append]
  rfl
 unfold rV fn DY
 walk_at "ev"
 simp -implicitDefEqProofs only [gj,gu,fF,cV,jV,jC,List.getElem?_cons_zero,List.getElem?_cons_succ,id_eq,wV,Int.reduceNeg,qg,Option.map_some,Option.bind_some,hs,Ar]
 rw[l1]
 rw[bF]at hc
 walk_at "ev"
 rw[hc]
 walk_at "ev"
structure PS (rs:List Row)(os:List Int)(bg:Option Nat):Prop where
 o:∀x∈os,0≤x∧x≤rs.length
 b:∀n,bg=some n→(∃a t,rs[n]?=some (.pt a t))∧os≠[]
 g:∀(i:Nat) t,rs[i]?=some (.go t)→t<rs.length+1
 r:∀(i:Nat) a t,rs[i]?=some (.pt a t)→0≤t
 x:PX rs os bg
noncomputable def jW:Option Nat→D
 |none=>.non
 |some n=>.int n
theorem PS.nil:PS [] [] none:=by
 refine⟨fun x h=>?_,fun n h=>?_,fun i t h=>?_,fun i a t h=>?_,PX.nil⟩
 ·cases h
 ·cases h
 ·rw[List.getElem?_nil]at h;cases h
 ·rw[List.getElem?_nil]at h;cases h
theorem oh{rs:List Row}{x r:Row}{i:Nat}(h:(rs++[x])[i]?=some r):rs[i]?=some r∨(i=rs.length∧r=x):=by
 rw[List.getElem?_append]at h
 split at h
 ·exact .inl h
 ·rename_i hi
  have:i-rs.length=0:=by
   rcases Nat.eq_zero_or_pos (i-rs.length)with z|z
   ·exact z
   ·rw[jG (by simp;omega)]at h;cases h
  rw[this]at h
  simp at h
  exact .inr ⟨by omega,h.symm⟩
theorem PS.row{rs:List Row}{os:List Int}{bg:Option Nat}{x:Row}(h:PS rs os bg)(hx:tJ x):PS (rs++[x]) (if bg=none then os++[(rs.length:Int)] else os) bg:=by
 refine⟨fun y hy=>?_,fun n hn=>?_,fun i t hi=>?_,fun i a t hi=>?_,h.x.row hx⟩
 ·rw[b9]
  split at hy
  ·rcases fX.mp hy with z|z
   ·have:=h.o y z;simp only[List.length_cons,List.length_nil];omega
   ·have:y=rs.length:=by simpa using z
    simp only[List.length_cons,List.length_nil];omega
  ·have:=h.o y hy;simp only[List.length_cons,List.length_nil];omega
 ·obtain⟨⟨a,t,q⟩,ne⟩:=h.b n hn
  refine⟨⟨a,t,?_⟩,?_⟩
  ·rw[lU (bt.mp q).1];exact q
  ·rw[hn];simpa using ne
 ·rw[b9]
  rcases oh hi with z|⟨_,z⟩
  ·have:=h.g i t z;simp only[List.length_cons,List.length_nil];omega
  ·subst z;exact hx.elim
 ·rcases oh hi with z|⟨_,z⟩
  ·exact h.r i a t z
  ·subst z;exact hx.1.1
theorem PS.open{rs:List Row}{os:List Int}{a:Ko}(h:PS rs os none)(ha:jU a):PS (rs++[.pt a 0]) (os++[(rs.length:Int)]) (some rs.length):=by
 have q:=h.row (x:=.pt a 0) ⟨⟨by decide,by decide⟩,ha⟩
 simp only[if_true]at q
 refine⟨q.o,fun n hn=>?_,q.g,q.r,h.x.open ha⟩
 cases hn
 exact⟨⟨a,0,by simp⟩,by simp⟩
theorem PS.shut{rs:List Row}{os:List Int}{b:Nat}{a:Ko}{t:Int}{x:Row}(h:PS rs os (some b))(hb:rs[b]?=some (.pt a t))(hx:qB os x):PS ((rs++[x]).set b (.pt a ((rs.length:Int)+1))) os none:=by
 refine⟨fun y hy=>?_,fun n hn=>(nomatch hn),fun i t' hi=>?_,fun i a' t' hi=>?_,h.x.shut hb hx⟩
 ·have:=h.o y hy
  rw[hG,b9];simp only[List.length_cons,List.length_nil];omega
 ·rw[hG,b9]
  simp only[List.length_cons,List.length_nil]
  rcases get_set hi with⟨_,z⟩|⟨_,z⟩
  ·cases z
  ·rcases oh z with z|⟨_,z⟩
   ·have:=h.g i t' z;omega
   ·subst z
    rcases hx with z|⟨o,ho,z⟩|⟨k,k0,k1,z⟩
    ·cases z
    ·cases z;have:=h.o _ ho;omega
    ·cases z;omega
 ·rcases get_set hi with⟨_,z⟩|⟨_,z⟩
  ·cases z;omega
  ·rcases oh z with z|⟨_,z⟩
   ·exact h.r i a' t' z
   ·subst z
    rcases hx with z|⟨o,ho,z⟩|⟨k,k0,k1,z⟩<;>cases z
theorem IY{m n:M}:jn (m,.non) (n,.non)=some (.fr,.bl true):=rfl
theorem IZ{m n:M}{i:Int}:jn (m,.int i) (n,.non)=some (.fr,.bl false):=rfl
theorem HD{m n:M}:kc (m,.non) (n,.non)=some (.fr,.bl false):=rfl
theorem HF{m n:M}{i:Int}:kc (m,.int i) (n,.non)=some (.fr,.bl true):=rfl
theorem P2{R:List D}{O':List D}{b c:Int}(h1:D.bH R=true)(h2:D.bH O'=true):k9 [0,3] [3,4] [(0,3),(1,5),(3,4)] [(.bo,.lst R),(.fr,.int b),(.fr,.int c),(.bo,.lst O')]=true:=by
 simp[k9,List.range_succ,own,dZ,gi,h1,h2]
theorem EW(cells names more:Option (M×D))(rs:List Row)(os:List Int)(b:Nat)(a:Ko)(t:Int)(hb:rs[b]?=some (.pt a t))(ho:os≠[])(hl:rs.length≤900)(cc:Int)(o6:Option (M×D))(f:Ev→Option (M×D))
  (hf:f [cells,names,more,some (.bo,.lst (rs.map Row.d)),some (.bo,.lst (os.map .int)),some (.fr,.int b),o6]=some (.fr,.int cc)) :
  ∃x,qB os x∧i7 [0,3] [3,4] [(0,3),(1,5),(3,4)] lA (ag (jV 3) (ag (jV 5) (ag f (ag (jV 4) ah)))) [cells,names,more,some (.bo,.lst (rs.map Row.d)),some (.bo,.lst (os.map .int)),some (.fr,.int b),o6] =
   some (.nx [cells,names,more,some (.bo,.lst (((rs++[x]).set b (.pt a ((rs.length:Int)+1))).map Row.d)),some (.bo,.lst (os.map .int)),some (.fr,.int b),o6]):=by
 obtain⟨x,hx,e⟩:=RZ rs b a t hb cc os ho hl
 refine⟨x,hx,?_⟩
 have hB:=P2 (b:=b) (c:=cc) (sj rs) (gW os)
 simp -implicitDefEqProofs only [i7,pZ,ag,ah,jV,hf,List.getElem?_cons_zero,List.getElem?_cons_succ,Option.bind_some,id_eq,hB,if_true,List.map_cons,List.map_nil,e,iz,List.set_cons_zero,List.set_cons_succ]
theorem Od(cells:Option (M×D))(ns:List Str)(hv:∀z∈ns,nameS z=true)(h1:0<ns.length)(h2:ns.length≤50)(more:Option (M×D))(rs:List Row)(os:List Int)(bg:Option Nat)(h:PS rs os bg)(hl:rs.length≤800)(YJ:os.length≤800)(c:Int)(mc:M)(ZF:mc=.al∨mc=.fr) :
  ∃cX ph zj,PS cX ph zj∧cX.length≤rs.length+1∧ph.length≤os.length+1∧pP [cells,some (.al,.lst (ns.map .str)),more,some (.bo,.lst (rs.map Row.d)),some (.bo,.lst (os.map .int)),some (.fr,jW bg),some (mc,.int c)] =
   some (.nx [cells,some (.al,.lst (ns.map .str)),more,some (.bo,.lst (cX.map Row.d)),some (.bo,.lst (ph.map .int)),some (.fr,jW zj),some (mc,.int c)]):=by
 have s1:rs.length<sizeLine:=dJ hl (by decide)
 have s2:os.length<sizeLine:=dJ YJ (by decide)
 have ai:∀x:Int,os.map D.int++[D.int x]=(os++[x]).map D.int:=fun x=>by rw[dh];rfl
 have ar:=vK rs
 obtain⟨r,er,fr⟩:=UU (c/11) ns hv h1 h2
 have hr:∀{e:Ev},jV 6 e=some (mc,.int c)→jV 1 e=some (.al,.lst (ns.map .str))→aI r6 (ag (ae bD (jV 6) (jC (.int 11))) (ag (jV 1) ah)) e=some (.fr,r.d):=fun {e} q1 q2=>by
  simp -implicitDefEqProofs only [aI,ag,ah,ae,jC,q1,q2,Option.bind_some,div_ii (show(0:Int)<11∧(11:Int)<1606938044258990275541962092341162602522202993782792835301376 by decide),List.map_cons,List.map_nil,er]
 have uO:(0:Int)<(ns.length:Int)+1:=by omega
 have q0:=cQ (c/11) (show(ns.length:Int)+1≠0 by omega)
 obtain⟨ka,ea,va⟩:=zr (c/11%((ns.length:Int)+1)) c ns hv q0
 have ZG:=qi ka
 cases bg with
 |none =>
  by_cases g:c%11=3
  ·refine⟨rs++[.pt ka 0],os++[(rs.length:Int)],some rs.length,h.open va,by simp,by simp,?_⟩
   unfold pP
   simp only[jW]
   walk_at "ev"
   simp -implicitDefEqProofs only [IY,g]
   walk_at "ev"
   simp -implicitDefEqProofs only [s2,ai,if_true]
   walk_at "ev"
   rw[fE uO]
   walk_at "ev"
   rw[ea]
   walk_at "ev"
   simp -implicitDefEqProofs only [s1,wB,ar,if_true]
  ·refine⟨rs++[r],os++[(rs.length:Int)],none,?_,by simp,by simp,?_⟩
   ·have:=h.row fr;simpa using this
   unfold pP
   simp only[jW]
   have c1:(bY (jB (ae aQ (ae aY (jV 6) (jC (.int 11))) (jC (.int 3)))) (jB (ae jn (jV 5) (jC .non)))) [cells,some (.al,.lst (ns.map .str)),more,some (.bo,.lst (rs.map Row.d)),some (.bo,.lst (os.map .int)),some (.fr,.non),some (mc,.int c)]=some false:=by
    walk_at "ev"
    simp only[g]
    walk_at "ev"
   have c2:(bY (jB (ae dY (ae aY (jV 6) (jC (.int 11))) (jC (.int 3)))) (jB (ae kc (jV 5) (jC .non)))) [cells,some (.al,.lst (ns.map .str)),more,some (.bo,.lst (rs.map Row.d)),some (.bo,.lst (os.map .int)),some (.fr,.non),some (mc,.int c)]=some false:=by
    walk_at "ev"
    by_cases g2:c%11<3
    ·simp only[g2]
     walk_at "ev"
     simp only[HD]
     walk_at "ev"
    ·simp only[g2]
     walk_at "ev"
   rw[bj c1,bj c2]
   have a1:aL (jB (ae jn (jV 5) (jC .non))) (bN 4 (aD bI (ag (jV 3) ah))) a8 [cells,some (.al,.lst (ns.map .str)),more,some (.bo,.lst (rs.map Row.d)),some (.bo,.lst (os.map .int)),some (.fr,.non),some (mc,.int c)]=some (.nx [cells,some (.al,.lst (ns.map .str)),more,some (.bo,.lst (rs.map Row.d)),some (.bo,.lst ((os++[(rs.length:Int)]).map .int)),some (.fr,.non),some (mc,.int c)]):=by
    walk_at "ev"
    simp -implicitDefEqProofs only [IY]
    walk_at "ev"
    simp -implicitDefEqProofs only [s2,ai,if_true]
   rw[aN a1]
   simp -implicitDefEqProofs only [bN]
   rw[hr rfl rfl]
   walk_at "ev"
   simp -implicitDefEqProofs only [s1,ar,if_true]
 |some b =>
  obtain⟨⟨a,t,hb⟩,ho⟩:=h.b b rfl
  have c1:(bY (jB (ae aQ (ae aY (jV 6) (jC (.int 11))) (jC (.int 3)))) (jB (ae jn (jV 5) (jC .non)))) [cells,some (.al,.lst (ns.map .str)),more,some (.bo,.lst (rs.map Row.d)),some (.bo,.lst (os.map .int)),some (.fr,.int b),some (mc,.int c)]=some false:=by
   walk_at "ev"
   by_cases g2:c%11=3
   ·simp only[g2]
    walk_at "ev"
    simp only[IZ]
    walk_at "ev"
   ·simp only[g2]
    walk_at "ev"
  have c2:(bY (jB (ae dY (ae aY (jV 6) (jC (.int 11))) (jC (.int 3)))) (jB (ae kc (jV 5) (jC .non)))) [cells,some (.al,.lst (ns.map .str)),more,some (.bo,.lst (rs.map Row.d)),some (.bo,.lst (os.map .int)),some (.fr,.int b),some (mc,.int c)]=some (decide (c%11<3)):=by
   walk_at "ev"
   by_cases g2:c%11<3
   ·simp only[g2]
    walk_at "ev"
    simp only[HF]
    walk_at "ev"
   ·simp only[g2]
    walk_at "ev"
  unfold pP
  simp only[jW]
  rw[bj c1]
  by_cases g:c%11<3
  ·obtain⟨x,hx,ex⟩:=EW cells (some (.al,.lst (ns.map .str))) more rs os b a t hb ho (by omega) (c/11) (some (mc,.int c)) (ae bD (jV 6) (jC (.int 11))) (by walk_at "ev")
   refine⟨(rs++[x]).set b (.pt a ((rs.length:Int)+1)),os,none,h.shut hb hx,by simp,by omega,?_⟩
   rw[dC (by rw[c2];simp only[g,decide_true]),aN ex]
   walk_at "ev"
  ·refine⟨rs++[r],os,some b,?_,by simp,by omega,?_⟩
   ·have:=h.row fr;simpa using this
   rw[bj (by rw[c2];simp only[g,decide_false])]
   have a1:aL (jB (ae jn (jV 5) (jC .non))) (bN 4 (aD bI (ag (jV 3) ah))) a8 [cells,some (.al,.lst (ns.map .str)),more,some (.bo,.lst (rs.map Row.d)),some (.bo,.lst (os.map .int)),some (.fr,.int b),some (mc,.int c)]=some (.nx [cells,some (.al,.lst (ns.map .str)),more,some (.bo,.lst (rs.map Row.d)),some (.bo,.lst (os.map .int)),some (.fr,.int b),some (mc,.int c)]):=by
    walk_at "ev"
    simp -implicitDefEqProofs only [IZ]
    walk_at "ev"
   rw[aN a1]
   simp -implicitDefEqProofs only [bN]
   rw[hr rfl rfl]
   walk_at "ev"
   simp -implicitDefEqProofs only [s1,ar,if_true]
structure Good (rs:List Row):Prop where
 pos:0<rs.length
 last:rs[rs.length-1]?=some .en
 go:∀(i:Nat) t,rs[i]?=some (.go t)→0≤t∧t<rs.length
 pt:∀(i:Nat) a t,rs[i]?=some (.pt a t)→0≤t∧t<rs.length∧t≠i+1
theorem z0{rs:List Row}{i:Nat}{r:Row}(h:(bS rs)[i]?=some r):∃q,rs[i]?=some q∧r=cN rs.length i q:=by
 unfold bS at h
 rw[qY]at h
 cases e:rs[i]? with
 |none=>rw[e]at h;cases h
 |some q=>rw[e]at h;cases h;exact⟨q,rfl,rfl⟩
theorem pY(rs:List Row):(bS rs).length=rs.length:=by simp[bS]
theorem Oe{rs:List Row}{os:List Int}(h:PS rs os none):Good (bS (rs++[.en])):=by
 have hl:(rs++[Row.en]).length=rs.length+1:=by simp
 refine⟨by rw[pY,hl];omega,?_,fun i t hi=>?_,fun i a t hi=>?_⟩
 ·rw[pY,hl]
  unfold bS
  rw[qY]
  simp only[Nat.add_sub_cancel]
  rw[List.getElem?_append_right (aR _),Nat.sub_self]
  rfl
 ·rw[pY]
  obtain⟨q,hq,e⟩:=z0 hi
  rw[hl]at e ⊢
  cases q with
  |go t0 =>
   rcases oh hq with z|⟨_,z⟩
   ·have aT:i<rs.length:=(bt.mp z).1
    have g:=h.g i t0 z
    simp only[cN]at e
    split at e
    ·cases e
     have hp:(0:Int)<((rs.length+1:Nat):Int)-i-1:=by omega
     have e0:=cQ (-1-t0) (show((rs.length+1:Nat):Int)-i-1≠0 by omega)
     have e1:=di (-1-t0) hp
     omega
    ·cases e;omega
   ·cases z
  |pt a t0=>simp only[cN]at e;cases e
  |rk x s a b=>cases e
  |cp x a=>cases e
  |sy a=>cases e
  |en=>cases e
 ·rw[pY]
  obtain⟨q,hq,e⟩:=z0 hi
  rw[hl]at e ⊢
  cases q with
  |pt a0 t0 =>
   simp only[cN]at e
   cases e
   have aT:i<rs.length:=by
    rcases oh hq with z|⟨_,z⟩
    ·exact(bt.mp z).1
    ·cases z
   have e0:=cQ t0 (show((rs.length+1:Nat):Int)≠0 by omega)
   have e1:=di t0 (show(0:Int)<((rs.length+1:Nat):Int) by omega)
   split
   ·omega
   ·omega
  |go t0=>simp only[cN]at e;split at e<;>cases e
  |rk x s a b=>cases e
  |cp x a=>cases e
  |sy a=>cases e
  |en=>cases e
theorem Og{rs:List Row}{nm:Str}(h:Good rs):Good (b7 rs nm):=by
 have hl:(b7 rs nm).length=rs.length+2:=by
  simp only[b7,List.length_cons,List.length_append,List.length_map,List.length_dropLast,List.length_nil]
  have:=h.pos;omega
 have at_:∀{i:Nat}{r:Row},(b7 rs nm)[i]?=some r→(i=0∧r=.go rs.length)∨(∃j q,i=j+1∧rs[j]?=some q∧r=bump q)∨(i=rs.length∧r=.pt (.inr nm) 1)∨(i=rs.length+1∧r=.en):=by
  intro i r hi
  cases i with
  |zero=>simp only[b7,List.getElem?_cons_zero,Option.some.injEq]at hi;exact .inl ⟨rfl,hi.symm⟩
  |succ j =>
   simp only[b7,List.getElem?_cons_succ]at hi
   rw[List.getElem?_append]at hi
   simp only[List.length_map,List.length_dropLast]at hi
   split at hi
   ·rename_i hj
    rw[cE]at hi
    cases e:rs.dropLast[j]? with
    |none=>rw[e]at hi;cases hi
    |some q =>
     rw[e]at hi;cases hi
     have e2:rs[j]?=some q:=by
      rw[List.dropLast_eq_take,List.getElem?_take_of_lt hj]at e
      exact e
     exact .inr (.inl ⟨j,q,rfl,e2,rfl⟩)
   ·rename_i hj
    have hp:=h.pos
    have:j-(rs.length-1)=0∨j-(rs.length-1)=1:=by
     rcases hJ (j-(rs.length-1)) 2 with z|z
     ·omega
     ·rw[jG (by simpa using z)]at hi;cases hi
    rcases this with z|z
    ·rw[z]at hi;cases hi;exact .inr (.inr (.inl ⟨by omega,rfl⟩))
    ·rw[z]at hi;cases hi;exact .inr (.inr (.inr ⟨by omega,rfl⟩))
 refine⟨by rw[hl];omega,?_,fun i t hi=>?_,fun i a t hi=>?_⟩
 ·rw[hl]
  have hp:=h.pos
  show(b7 rs nm)[rs.length+1]?=_
  simp only[b7,List.getElem?_cons_succ]
  rw[List.getElem?_append_right (by simp)]
  simp only[List.length_map,List.length_dropLast]
  have:rs.length-(rs.length-1)=1:=by omega
  rw[this];rfl
 ·rw[hl]
  rcases at_ hi with⟨_,z⟩|⟨j,q,_,hq,z⟩|⟨_,z⟩|⟨_,z⟩
  ·cases z;omega
  ·cases q<;>simp only[bump]at z<;>cases z
   have:=h.go j _ hq;omega
  ·cases z
  ·cases z
 ·rw[hl]
  have hp:=h.pos
  rcases at_ hi with⟨_,z⟩|⟨j,q,e,hq,z⟩|⟨e,z⟩|⟨_,z⟩
  ·cases z
  ·cases q<;>simp only[bump]at z<;>cases z
   have:=h.pt j _ _ hq;omega
  ·cases z;omega
  ·cases z
noncomputable def a7(n:Int):Row→List Int
 |.en=>[]
 |.go t=>[t]
 |.pt _ t=>[n+1,t]
 |_=>[n+1]
def aF(rs:List Row)(i j:Nat):Prop:=∃r,rs[i]?=some r∧(j:Int)∈a7 i r∧j<rs.length
inductive fD (rs:List Row):Nat→Nat→Prop
 |refl (i:Nat):fD rs i i
 |step {i j k:Nat}:aF rs i j→fD rs j k→fD rs i k
theorem fD.trans{rs:List Row}{i j k:Nat}(h:fD rs i j)(h':fD rs j k):fD rs i k:=by
 induction h with
 |refl=>exact h'
 |step s _ ih=>exact .step s (ih h')
theorem fD.snoc{rs:List Row}{i j k:Nat}(h:fD rs i j)(s:aF rs j k):fD rs i k:=h.trans (.step s (.refl k))
structure qQ (rs:List Row):Prop where
 to:∀i,i<rs.length→fD rs 0 i
 on:∀i,i<rs.length→∃e,fD rs i e∧rs[e]?=some .en
theorem Nc{rs:List Row}{i:Nat}{r:Row}(h:rs[i]?=some r)(hp:Row.plain r)(hl:i+1<rs.length):aF rs i (i+1):=by
 refine⟨r,h,?_,hl⟩
 cases r<;>first|exact hp.elim|simp[a7]
theorem Fy{rs:List Row}{i:Nat}{q:Row}(h:rs[i]?=some q):(bS rs)[i]?=some (cN rs.length i q):=by
 unfold bS
 rw[qY,h]
 rfl
theorem Nf{m n:Int}{r:Row}(h:Row.plain r):Row.plain (cN m n r):=by cases r<;>first|exact h.elim|exact trivial
theorem Oh{rs:List Row}{os:List Int}(h:PS rs os none):qQ (bS (rs++[.en])):=by
 have hl:(rs++[Row.en]).length=rs.length+1:=by simp
 have tl:(bS (rs++[.en])).length=rs.length+1:=by rw[pY,hl]
 have hx:=h.x
 have at_:∀{i:Nat}{q:Row},rs[i]?=some q→(bS (rs++[.en]))[i]?=some (cN ((rs.length+1:Nat):Int) i q):=fun {i q} hq=>by
  rw[Fy (pX hq),hl]
 have Bs:(bS (rs++[.en]))[rs.length]?=some .en:=by
  rw[Fy (q:=.en) (by simp)];rfl
 have Mj:∀{b k:Nat}{a:Ko},rs[b]?=some (.pt a (k:Int))→b+1<k→k≤rs.length→aF (bS (rs++[.en])) b k:=fun {b k a} hb h1 h2=>by
  refine⟨_,at_ hb,?_,by omega⟩
  have em:(k:Int)%((rs.length+1:Nat):Int)=k:=Int.emod_eq_of_lt (by omega) (by omega)
  simp only[cN,em,if_neg (show ¬((k:Int)=(b:Int)+1) by omega),a7,List.mem_cons,List.not_mem_nil,or_false,or_true]
 have DC:∀{i:Nat}{r:Row},rs[i]?=some r→Row.plain r→aF (bS (rs++[.en])) i (i+1):=fun {i r} hr hp=>by
  have:=(bt.mp hr).1
  exact Nc (at_ hr) (Nf hp) (by omega)
 have outer:∀(d n:Nat),rs.length-n≤d→(n:Int)∈os→∃e,fD (bS (rs++[.en])) n e∧(bS (rs++[.en]))[e]?=some .en:=by
  intro d
  induction d with
  |zero =>
   intro n hd hn
   obtain⟨n',e,B3⟩:=hx.ol _ hn
   omega
  |succ d ih =>
   intro n hd hn
   obtain⟨n',e',B3⟩:=hx.ol _ hn
   have:n<rs.length:=by omega
   obtain⟨k,k1,k2,k3⟩:=hx.oc n hn (fun z=>nomatch z)
   have hk:k≤rs.length:=by
    rcases k2 with k2|⟨k2,_⟩
    ·obtain⟨m,em,hm⟩:=hx.ol _ k2;omega
    ·omega
   have st:aF (bS (rs++[.en])) n k:=by
    rcases k3 with⟨e,r,h1,h2⟩|⟨e,a,h1⟩
    ·subst e;exact DC h1 h2
    ·exact Mj h1 e hk
   rcases k2 with k2|⟨k2,_⟩
   ·obtain⟨e,h1,h2⟩:=ih k (by omega) k2
    exact⟨e,.step st h1,h2⟩
   ·subst k2;exact⟨rs.length,.step st (.refl _),Bs⟩
 have all:∀(d i:Nat),rs.length-i≤d→i≤rs.length→∃e,fD (bS (rs++[.en])) i e∧(bS (rs++[.en]))[e]?=some .en:=by
  intro d
  induction d with
  |zero =>
   intro i hd hi
   have:i=rs.length:=by omega
   subst this
   exact⟨_,.refl _,Bs⟩
  |succ d ih =>
   intro i hd hi
   by_cases e:i=rs.length
   ·subst e;exact⟨_,.refl _,Bs⟩
   have aT:i<rs.length:=by omega
   have hr:rs[i]?=some (rs[i]'aT):=by simp
   generalize rs[i]'aT=r at hr
   by_cases hp:Row.plain r
   ·obtain⟨e,h1,h2⟩:=ih (i+1) (by omega) (by omega)
    exact⟨e,.step (DC hr hp) h1,h2⟩
   ·cases r with
    |en=>exact⟨i,.refl _,by rw[at_ hr];rfl⟩
    |go t =>
     by_cases ht:t<0
     ·have hp:(0:Int)<((rs.length+1:Nat):Int)-i-1:=by omega
      have e0:=cQ (-1-t) (show((rs.length+1:Nat):Int)-i-1≠0 by omega)
      have e1:=di (-1-t) hp
      generalize hq:(-1-t)%(((rs.length+1:Nat):Int)-i-1)=q at e0 e1
      obtain⟨j,hj⟩:∃j:Nat,(i:Int)+1+q=j:=⟨((i:Int)+1+q).toNat,by omega⟩
      obtain⟨e,h1,h2⟩:=ih j (by omega) (by omega)
      refine⟨e,.step ⟨_,at_ hr,?_,by omega⟩ h1,h2⟩
      simp only[cN,if_pos ht,a7,hq,hj,List.mem_singleton]
     ·have h0:0≤t:=by omega
      have hm:=hx.gt i t hr h0
      obtain⟨j,ej,hj⟩:=hx.ol t hm
      subst ej
      obtain⟨e,h1,h2⟩:=outer rs.length j (by omega) hm
      refine⟨e,.step ⟨_,at_ hr,?_,by omega⟩ h1,h2⟩
      simp only[cN,if_neg ht,a7,List.mem_singleton]
    |rk x s a b=>exact absurd trivial hp
    |cp x a=>exact absurd trivial hp
    |sy a=>exact absurd trivial hp
    |pt a t=>exact absurd trivial hp
 have frm:∀(d i:Nat),i≤d→i≤rs.length→fD (bS (rs++[.en])) 0 i:=by
  intro d
  induction d with
  |zero =>
   intro i hd _
   have:i=0:=by omega
   subst this;exact .refl 0
  |succ d ih =>
   intro i hd hi
   cases i with
   |zero=>exact .refl 0
   |succ i =>
    have aT:i<rs.length:=by omega
    have hr:rs[i]?=some (rs[i]'aT):=by simp
    generalize rs[i]'aT=r at hr
    by_cases hp:Row.plain r
    ·exact(ih i (by omega) (by omega)).snoc (DC hr hp)
    ·obtain⟨b,a,hb,h1,_⟩:=hx.s i r hr hp
     exact(ih b (by omega) (by omega)).snoc (Mj h1 (by omega) hi)
 exact⟨fun i hi=>frm i i (aR _) (by omega),fun i hi=>all (rs.length-i) i (aR _) (by omega)⟩
theorem Fz{rs:List Row}{nm:Str}{i:Nat}{r:Row}(h:rs[i]?=some r)(hi:i+1<rs.length):(b7 rs nm)[i+1]?=some (bump r):=by
 simp only[b7,List.getElem?_cons_succ]
 rw[lU (by rw[aU,List.length_dropLast];omega),cE,List.getElem?_dropLast,if_pos (by omega),h]
 rfl
theorem Oi{rs:List Row}{nm:Str}(g:Good rs)(h:qQ rs):qQ (b7 rs nm):=by
 have hp:=g.pos
 have tl:(b7 rs nm).length=rs.length+2:=by
  simp only[b7,List.length_cons,List.length_append,List.length_map,List.length_dropLast,List.length_nil];omega
 have a0:(b7 rs nm)[0]?=some (.go rs.length):=rfl
 have aM:(b7 rs nm)[rs.length]?=some (.pt (.inr nm) 1):=by
  obtain⟨k,hk⟩:∃k,rs.length=k+1:=⟨rs.length-1,by omega⟩
  rw[hk]
  simp only[b7,List.getElem?_cons_succ]
  rw[List.getElem?_append_right (by rw[aU,List.length_dropLast];omega),aU,List.length_dropLast]
  rw[show k-(rs.length-1)=0 by omega];rfl
 have aE:(b7 rs nm)[rs.length+1]?=some .en:=by
  simp only[b7,List.getElem?_cons_succ]
  rw[List.getElem?_append_right (by rw[aU,List.length_dropLast];omega),aU,List.length_dropLast]
  rw[show rs.length-(rs.length-1)=1 by omega];rfl
 have s0:aF (b7 rs nm) 0 rs.length:=⟨_,a0,by simp[a7],by omega⟩
 have YK:aF (b7 rs nm) rs.length 1:=⟨_,aM,by simp[a7],by omega⟩
 have DF:aF (b7 rs nm) rs.length (rs.length+1):=⟨_,aM,by simp[a7],by omega⟩
 have up:∀{i j:Nat},aF rs i j→aF (b7 rs nm) (i+1) (j+1):=fun {i j} ⟨r,hr,hm,hj⟩=>by
  have hi:i<rs.length:=(bt.mp hr).1
  have ne:i+1<rs.length:=by
   rcases hJ (i+1) rs.length with z|z
   ·exact z
   ·have e:i=rs.length-1:=by omega
    rw[e,g.last]at hr
    cases hr;cases hm
  refine⟨bump r,Fz hr ne,?_,by omega⟩
  cases r with
  |en=>cases hm
  |go t=>simp only[a7,List.mem_singleton]at hm;simp only[bump,a7,List.mem_singleton];omega
  |pt a t=>simp only[a7,List.mem_cons,List.not_mem_nil,or_false]at hm;simp only[bump,a7,List.mem_cons,List.not_mem_nil,or_false];omega
  |rk x s a b=>simp only[a7,List.mem_singleton]at hm;simp only[bump,a7,List.mem_singleton];omega
  |cp x a=>simp only[a7,List.mem_singleton]at hm;simp only[bump,a7,List.mem_singleton];omega
  |sy a=>simp only[a7,List.mem_singleton]at hm;simp only[bump,a7,List.mem_singleton];omega
 have DG:∀{i j:Nat},fD rs i j→fD (b7 rs nm) (i+1) (j+1):=fun {i j} hr=>by
  induction hr with
  |refl i=>exact .refl _
  |step s _ ih=>exact .step (up s) ih
 refine⟨fun i hi=>?_,fun i hi=>?_⟩
 ·cases i with
  |zero=>exact .refl 0
  |succ i =>
   by_cases e:i<rs.length
   ·exact .step s0 (.step YK (DG (h.to i e)))
   ·have:i=rs.length:=by omega
    subst this;exact .step s0 (.step DF (.refl _))
 ·cases i with
  |zero=>exact⟨rs.length+1,.step s0 (.step DF (.refl _)),aE⟩
  |succ i =>
   by_cases e:i<rs.length
   ·obtain⟨e,h1,h2⟩:=h.on i e
    by_cases z:e+1<rs.length
    ·exact⟨e+1,DG h1,by rw[Fz h2 z];rfl⟩
    ·have:=(bt.mp h2).1
     have q:=DG h1
     rw[show e+1=rs.length by omega]at q
     exact⟨rs.length+1,q.snoc DF,aE⟩
   ·have:i=rs.length:=by omega
    subst this;exact⟨rs.length+1,.refl _,aE⟩
theorem R6{rs:List Row}(h:∀r∈rs,RV r):∀r∈bS rs,RV r:=fun r hr=>by
 obtain⟨i,hi⟩:=List.mem_iff_getElem?.mp hr
 obtain⟨q,hq,rfl⟩:=z0 hi
 have:=h q (fB hq)
 cases q with
 |go t=>simp only[cN];split<;>exact trivial
 |pt a t=>exact this
 |rk x s a b=>exact this
 |cp x a=>exact this
 |sy a=>exact this
 |en=>exact trivial
theorem R7{rs:List Row}{nm:Str}(h:∀r∈rs,RV r)(hn:nameS nm=true):∀r∈b7 rs nm,RV r:=fun r hr=>by
 simp only[b7,List.mem_cons,List.mem_append,List.mem_map,List.not_mem_nil,or_false]at hr
 rcases hr with rfl|⟨q,hq,rfl⟩|rfl|rfl
 ·exact trivial
 ·have:=h q (by rw[List.dropLast_eq_take]at hq;exact List.mem_of_mem_take hq)
  cases q<;>first|exact this|exact trivial
 ·exact Fw hn
 ·exact trivial
theorem zo:∀ns:List Int,cC (ns.map .int)=true
 |[]=>by simp only[List.map_nil,cC]
 |n::ns=>by simp only[List.map_cons,cC,J.plain,zo ns,Bool.and_self]
theorem z4{m n:M}(cs:List Int):fu (m,.lst (cs.map .int)) (n,.lst [])=some (.fr,.bl (!cs.isEmpty)):=by
 have ok:jv (.lst (cs.map .int)) (.lst [])=true:=by
  simp only[jv,J.plain,zo,cC,oz,Bool.and_self,Bool.true_and]
  have:min (toPy (.lst (cs.map .int))).depth (toPy (.lst [])).depth≤(toPy (.lst [])).depth:=Nat.min_le_right _ _
  have h2:(toPy (.lst [])).depth≤60:=by simp[toPy,cv,PyData.depth,PyData.depthAll]
  exact fL (bQ this h2)
 simp only[fu,ok,if_true]
 cases cs with
 |nil=>simp[toPy,cv,PyData.eqv,PyData.eqvAll]
 |cons c cs=>simp[toPy,cv,PyData.eqv,PyData.eqvAll]
theorem ints_of:∀{xs:List D},(∀x∈xs,∃i:Int,x=.int i)→∃is:List Int,xs=is.map D.int
 |[],_=>⟨[],rfl⟩
 |x::xs,h=>by
  obtain⟨is,e⟩:=ints_of fun y hy=>h y (cT _ hy)
  obtain⟨i,rfl⟩:=h x cL
  exact⟨i::is,by rw[bF,e]⟩
theorem P4(cs:List Int)(hc:cs.length≤63)(ns:D)(more:Int)(hm:0≤more∧more≤60) :
  ∃ks:List Int,ks.length≤130∧gn (ae aW (jV 0) (gF (iI (ag (ae c6 (jV 2) (aD c7 (ag (ae fu (jV 0) (bJ ah)) ah))) ah)) [0] ft (ae aW (ae aj (jV 1) (ae aY (jV 0) (aD bI (ag (jV 1) ah)))) (ae c6 (jC (.int 101)) (jV 0)))))
   [some (.al,.lst (cs.map .int)),some (.al,ns),some (.al,.int more),some (.bo,.lst []),some (.bo,.lst []),some (.fr,.non),none]=some (.fr,ks.map .int):=by
 generalize hN:more*(if (!cs.isEmpty)=true then 1 else 0:Int)=N
 have n0:0≤N∧N≤60:=by
  cases cs with
  |nil=>simp at hN;omega
  |cons c cs=>simp at hN;omega
 have nz:0<N→0<cs.length:=fun h=>by
  cases cs with
  |nil=>simp at hN;omega
  |cons c cs=>simp
 obtain⟨xs,ex,xl,xp⟩:=EH (fc:=ft) (fe:=ae aW (ae aj (jV 1) (ae aY (jV 0) (aD bI (ag (jV 1) ah)))) (ae c6 (jC (.int 101)) (jV 0))) (m:=.fr) (fr:=[some (.al,.lst (cs.map .int))]) (P:=fun x=>∃i:Int,x=.int i) (ds:=fM 0 N.toNat) (fun d hd=>by
  obtain⟨i,hi⟩:=List.mem_iff_getElem?.mp hd
  obtain⟨h1,rfl⟩:=Ah hi
  have hp:(0:Int)<cs.length:=by have:=nz (by omega);omega
  obtain⟨c,uE⟩:=zF (ns:=cs) (k:=(0+(i:Int))%cs.length) (cQ _ (by omega)) (di _ hp)
  have Ze:(i:Int)<60:=by omega
  refine⟨rfl,.int (c+101*(0+(i:Int))),?_,_,rfl⟩
  generalize (0:Int)+(i:Int)=k at uE ⊢
  walk_at "ev"
  rw[fE hp]
  walk_at "ev"
  rw[uE]
  walk_at "ev"
  rw[wU (by decide)]
  walk_at "ev")
 obtain⟨is,rfl⟩:=ints_of xp
 rw[zU,aU]at xl
 refine⟨cs++is,by rw[b9];omega,?_⟩
 have eL:eY ((is.map D.int).map fun x=>(M.fr,x))=some (.un,.lst (is.map D.int)):=F9 (by rw[aU];omega)
 have Bt:aW (.al,.lst (cs.map .int)) (.un,.lst (is.map .int))=some (.un,.lst ((cs++is).map .int)):=by
  rw[qf (by simp[aG]) (by simp[aG]) (by rw[aU,aU];exact bQ (show cs.length+is.length≤1000 by omega) (by decide)),Vy,←dh]
  exact Hj (gW _)
 have hr:-4611686018427387904≤N∧N<4611686018427387904:=by omega
 have hmul:∀{m n:M},c6 (m,.int more) (n,.int (if (!cs.isEmpty)=true then 1 else 0))=some (.fr,.int N):=fun {m n}=>by
  rw[wU (by omega),hN]
 simp -implicitDefEqProofs only [gn,ae,gF,iI,ag,ah,aD,jV,bJ,eY,List.length_nil,rE,Nat.zero_le,List.all_nil,if_true,List.map_nil,List.getElem?_cons_zero,List.getElem?_cons_succ,Option.bind_some,id_eq,z4,wW,hmul,hr,and_self]
 show(((fU _ _ M.fr [some (.al,.lst (cs.map .int))] _).bind eY).bind fun y=>aW _ y).bind _=_
 rw[ex]
 simp -implicitDefEqProofs only [Option.bind_some,eL,Bt,ia,Option.map_some]
theorem Ng(cs:List Int)(hc:cs.length≤63)(ns:List Str)(hv:∀z∈ns,nameS z=true)(h1:0<ns.length)(h2:ns.length≤50)(more:Int)(hm:0≤more∧more≤60) :
  ∃rs,(Good rs∧qQ rs∧∀r∈rs,RV r)∧rs.length≤140∧∃m,(m=.un)∧rR [.lst (cs.map .int),.lst (ns.map .str),.int more]=some (m,.lst (rs.map Row.d)):=by
 obtain⟨ks,kl,ek⟩:=P4 cs hc (.lst (ns.map .str)) more hm
 have l1:=og (g:=gN 6) (b:=pP) (m:=.fr) (ds:=ks.map D.int) (e:=[some (.al,.lst (cs.map .int)),some (.al,.lst (ns.map .str)),some (.al,.int more),some (.bo,.lst []),some (.bo,.lst []),some (.fr,.non),none])
  (fun i e=>∃(rs:List Row) (os:List Int) (bg:Option Nat) (o:Option (M×D)),PS rs os bg∧rs.length≤i∧os.length≤i∧e=[some (.al,.lst (cs.map .int)),some (.al,.lst (ns.map .str)),some (.al,.int more),some (.bo,.lst (rs.map Row.d)),some (.bo,.lst (os.map .int)),some (.fr,jW bg),o])
  ⟨[],[],none,none,PS.nil,aR _,aR _,rfl⟩
  (fun i d e hd ⟨rs,os,bg,o,hp,a1,a2,he⟩=>by
   subst he
   rw[cE]at hd
   cases hk:ks[i]? with
   |none=>rw[hk]at hd;cases hd
   |some c =>
    rw[hk]at hd
    cases hd
    have hi:i<ks.length:=(bt.mp hk).1
    obtain⟨cX,ph,zj,b1,b2,b3,b4⟩:=Od (some (.al,.lst (cs.map .int))) ns hv h1 h2 (some (.al,.int more)) rs os bg hp (by omega) (by omega) c .fr (.inr rfl)
    exact⟨_,_,rfl,b4,cX,ph,zj,some (.fr,.int c),b1,by omega,by omega,rfl⟩)
 obtain⟨e',l1,rs,os,bg,o,hp,a1,a2,rfl⟩:=l1
 rw[aU]at a1 a2
 have cl:∃cX o5,PS cX os none∧cX.length≤rs.length+1∧aL (jB (ae kc (jV 5) (jC .non))) (i7 [0,3] [3,4] [(0,3),(1,5),(3,4)] lA (ag (jV 3) (ag (jV 5) (ag (jC (.int 0)) (ag (jV 4) ah))))) a8
   [some (.al,.lst (cs.map .int)),some (.al,.lst (ns.map .str)),some (.al,.int more),some (.bo,.lst (rs.map Row.d)),some (.bo,.lst (os.map .int)),some (.fr,jW bg),o]=some (.nx [some (.al,.lst (cs.map .int)),some (.al,.lst (ns.map .str)),some (.al,.int more),some (.bo,.lst (cX.map Row.d)),some (.bo,.lst (os.map .int)),o5,o]):=by
  cases bg with
  |none =>
   refine⟨rs,some (.fr,.non),hp,by omega,?_⟩
   rw[bj (by simp only[jW];walk_at "ev"; simp only[HD];walk_at "ev")]
   rfl
  |some b =>
   obtain⟨⟨a,t,hb⟩,ho⟩:=hp.b b rfl
   obtain⟨x,hx,ex⟩:=EW (some (.al,.lst (cs.map .int))) (some (.al,.lst (ns.map .str))) (some (.al,.int more)) rs os b a t hb ho (by omega) 0 o (jC (.int 0)) rfl
   refine⟨_,some (.fr,.int b),hp.shut hb hx,by simp,?_⟩
   rw[dC (by simp only[jW];walk_at "ev"; simp only[HF];walk_at "ev")]
   exact ex
 obtain⟨cX,o5,mn,a3,ec⟩:=cl
 have DH:(cX++[Row.en]).length=cX.length+1:=by simp
 have et:=Ob (cX++[.en]) (by rw[DH];omega) (by rw[DH];omega) (fun i t hi=>by
  rcases oh hi with z|⟨_,z⟩
  ·have:=(bt.mp z).1;omega
  ·cases z)
 have gt:Good (bS (cX++[.en]))∧qQ (bS (cX++[.en]))∧∀r∈bS (cX++[.en]),RV r:=⟨Oe mn,Oh mn,R6 (vZ mn.x.v trivial)⟩
 have tl:(bS (cX++[.en])).length=cX.length+1:=by rw[pY,DH]
 have Bt:aW (.bo,.lst (cX.map Row.d)) (.un,.lst [.tup [.str "end"]])=some (.un,.lst ((cX++[Row.en]).map Row.d)):=by
  rw[qf (by simp[aG]) (by simp[aG]) (by rw[aU];exact bQ (show cX.length+1≤1000 by omega) (by decide)),AG,Ag,dh]
  rfl
 obtain⟨nm,YL,YM⟩:=zA (ns:=ns) (k:=0) (by decide) (by omega)
 generalize bS (cX++[.en])=T at et gt tl
 have s3:aH 3 (aI rQ (ag (ae aW (jV 3) (bJ (ag (ck (ag (jC (.str "end")) ah)) ah))) ah)) [some (.al,.lst (cs.map .int)),some (.al,.lst (ns.map .str)),some (.al,.int more),some (.bo,.lst (cX.map Row.d)),some (.bo,.lst (os.map .int)),o5,o]=some (.nx [some (.al,.lst (cs.map .int)),some (.al,.lst (ns.map .str)),some (.al,.int more),some (.bo,.lst (T.map Row.d)),some (.bo,.lst (os.map .int)),o5,o]):=by
  walk_at "ev"
  rw[Bt]
  walk_at "ev"
  rw[et]
  walk_at "ev"
 have fin:∀{g:Ev→Option Fl},rR [.lst (cs.map .int),.lst (ns.map .str),.int more]=(aw (aL (bY (jB (ae fu (jV 0) (bJ ah))) (bY (jB (ae aQ (ae aY (ae bD (ae aj (jV 0) (jC (.int 0))) (jC (.int 7))) (jC (.int 6))) (jC (.int 1)))) (jB (ae dY (aD bI (ag (jV 3) ah)) (jC (.int 59))))))
   (aH 3 (aI rV (ag (jV 3) (ag (ae aj (jV 1) (jC (.int 0))) ah)))) a8) (aP (jV 3)) [some (.al,.lst (cs.map .int)),some (.al,.lst (ns.map .str)),some (.al,.int more),some (.bo,.lst (T.map Row.d)),some (.bo,.lst (os.map .int)),o5,o]).bind out:=by
  intro g
  unfold rR fn DT
  rw[show([D.lst (cs.map .int),.lst (ns.map .str),.int more].map (fun d=>some (M.al,d))++List.replicate (7 - [D.lst (cs.map .int),.lst (ns.map .str),.int more].length) none:Ev)=[some (.al,.lst (cs.map .int)),some (.al,.lst (ns.map .str)),some (.al,.int more),none,none,none,none] from rfl]
  rw[aN (e':=[some (.al,.lst (cs.map .int)),some (.al,.lst (ns.map .str)),some (.al,.int more),some (.bo,.lst []),none,none,none]) (by walk_at "ev")]
  rw[aN (e':=[some (.al,.lst (cs.map .int)),some (.al,.lst (ns.map .str)),some (.al,.int more),some (.bo,.lst []),some (.bo,.lst []),none,none]) (by walk_at "ev")]
  rw[aN (e':=[some (.al,.lst (cs.map .int)),some (.al,.lst (ns.map .str)),some (.al,.int more),some (.bo,.lst []),some (.bo,.lst []),some (.fr,.non),none]) (by walk_at "ev")]
  rw[aN (e':=[some (.al,.lst (cs.map .int)),some (.al,.lst (ns.map .str)),some (.al,.int more),some (.bo,.lst (rs.map Row.d)),some (.bo,.lst (os.map .int)),some (.fr,jW bg),o]) (by
   rw[fq,ek,aB];exact l1)]
  rw[aN ec,aN s3]
 rw[fin (g:=a8)]
 have HG:∀{DI:Ev→Option Bool}{th:Ev→Option Fl},DI [some (.al,.lst (cs.map .int)),some (.al,.lst (ns.map .str)),some (.al,.int more),some (.bo,.lst (T.map Row.d)),some (.bo,.lst (os.map .int)),o5,o]=some false→∃rs,(Good rs∧qQ rs∧∀r∈rs,RV r)∧rs.length≤140∧∃m,(m=.un)∧(aw (aL DI th a8) (aP (jV 3)) [some (.al,.lst (cs.map .int)),some (.al,.lst (ns.map .str)),some (.al,.int more),some (.bo,.lst (T.map Row.d)),some (.bo,.lst (os.map .int)),o5,o]).bind out=some (m,.lst (rs.map Row.d)):=fun {DI th} dM=>by
  refine⟨T,gt,by omega,.un,rfl,?_⟩
  rw[aN (e':=[some (.al,.lst (cs.map .int)),some (.al,.lst (ns.map .str)),some (.al,.int more),some (.bo,.lst (T.map Row.d)),some (.bo,.lst (os.map .int)),o5,o]) (by rw[bj dM];rfl)]
  walk_at "ev"
 cases cs with
 |nil =>
  refine HG ?_
  simp -implicitDefEqProofs only [bY,jB,ae,jV,bJ,ah,eY,List.length_nil,rE,Nat.zero_le,List.all_nil,if_true,List.map_nil,List.getElem?_cons_zero,Option.bind_some,id_eq,show fu (.al,.lst []) (.un,.lst [])=some (.fr,.bl false)from z4 [],bR,Bool.false_eq_true,if_false]
 |cons c0 lr =>
  have gk:∀{m n:M},fu (m,.lst ((c0::lr).map .int)) (n,.lst [])=some (.fr,.bl true):=fun {m n}=>z4 (c0::lr)
  have dM:(bY (jB (ae fu (jV 0) (bJ ah))) (bY (jB (ae aQ (ae aY (ae bD (ae aj (jV 0) (jC (.int 0))) (jC (.int 7))) (jC (.int 6))) (jC (.int 1)))) (jB (ae dY (aD bI (ag (jV 3) ah)) (jC (.int 59)))))) [some (.al,.lst ((c0::lr).map .int)),some (.al,.lst (ns.map .str)),some (.al,.int more),some (.bo,.lst (T.map Row.d)),some (.bo,.lst (os.map .int)),o5,o]=some (decide (c0/7%6=1)&&decide ((T.length:Int)<59)):=by
   have h0:L2.aX ((c0::lr).map D.int) 0=some (.int c0):=by
    have z:=gY (l:=(c0::lr).map D.int) (k:=0) (by simp)
    simpa using z
   generalize (c0::lr).map D.int=CS at gk h0
   simp -implicitDefEqProofs only [bY,jB,ae,jV,bJ,ah,eY,ag,aD,jC,List.length_nil,rE,Nat.zero_le,List.all_nil,if_true,List.map_nil,List.getElem?_cons_zero,List.getElem?_cons_succ,Option.bind_some,id_eq,gk,bR,iy,h0,Option.map_some,dq]
   walk_at "ev"
   by_cases g:c0/7%6=1
   ·simp only[g];walk_at "ev"
   ·simp only[g];walk_at "ev"; simp
  by_cases g:(decide (c0/7%6=1)&&decide ((T.length:Int)<59))=true
  ·have hT:T.length<59:=by
    simp only[Bool.and_eq_true,decide_eq_true_eq]at g;omega
   refine⟨b7 T nm,⟨Og gt.1,Oi gt.1 gt.2.1,R7 gt.2.2 (hv nm YM)⟩,?_,.un,rfl,?_⟩
   ·simp only[b7,List.length_cons,List.length_append,List.length_map,List.length_dropLast,List.length_nil];omega
   have YN:=Oc T nm (by omega)
   rw[aN (e':=[some (.al,.lst ((c0::lr).map .int)),some (.al,.lst (ns.map .str)),some (.al,.int more),some (.bo,.lst ((b7 T nm).map Row.d)),some (.bo,.lst (os.map .int)),o5,o]) (by
    rw[dC (by rw[dM,g])]
    generalize (c0::lr).map D.int=CS
    walk_at "ev"
    rw[YL]
    walk_at "ev"
    rw[YN]
    walk_at "ev")]
   generalize (c0::lr).map D.int=CS
   walk_at "ev"
  ·have g':(decide (c0/7%6=1)&&decide ((T.length:Int)<59))=false:=by simpa using g
   exact HG (by rw[dM,g'])
local macro_rules|`(tactic| walk_at "ev")=>`(tactic| simp -implicitDefEqProofs only [aw,aL,jB,ae,cV,jV,aD,ag,ah,aP,Ii,aH,a8,jC,aI,ky,yz,xC,bY,cB,fm,qF,ck,bJ,tE,eY,bN,jo,fq,gn,iI,ia,List.map_cons,List.map_nil,List.length_cons,List.length_nil,List.cons_append,List.nil_append,List.replicate,List.getElem?_cons_zero,List.getElem?_cons_succ,List.set_cons_zero,List.set_cons_succ,List.all_cons,List.all_nil,Option.bind_some,Option.bind_none,Option.map_some,Option.map_none,id_eq,Il,dQ,Im,lI,wR,Ad,Ae,Ip,Iq,tF,Ir,Rg,Ue,Rh,iy,kf,AF,Iw,Iy,Iz,wW,bR,qg,zT,vS,oi,Af,Hc,Hd,He,wg,Hg,Hh,fW,xE,JA,JB,dq,wj,Hi,wm,if_true,if_false,Bool.and_self,Bool.and_true,Bool.true_and,Bool.false_eq_true,decide_true,decide_false,reduceIte,reduceCtorEq,List.length_map,Nat.reduceAdd,Nat.reduceSub,Bool.not_true,Bool.not_false,rE,JC,Nat.reduceLeDiff,mul_r,fE,div_ii,Io,Ud,Int.reducePow,Int.reduceNeg,Int.reduceLT,Int.reduceLE,Int.reduceToNat,and_self,and_true,true_and,Nat.reducePow,Nat.reduceLT,qf,AG,Vx,Ag,ne_eq,not_false_eq_true])
theorem UY(rs:List Row)(n:Nat)(r:Row)(h:rs[n]?=some r):pQ [.lst (rs.map Row.d),.int n]=some (.un,.lst ((a7 n r).map .int)):=by
 have aT:n<rs.length:=(bt.mp h).1
 have gU:L2.aX (rs.map Row.d) (n:Int)=some r.d:=by
  rw[gY (by rw[aU];exact aT),lX]
  rw[bO aT]at h
  rw[c9 h]
 generalize (n:Int)=nn at gU ⊢
 unfold pQ fn D7
 walk_at "ev"
 rw[gU]
 walk_at "ev"
 simp -implicitDefEqProofs only [ib,Option.bind_some,dq,dQ,bR,jz,iM,iN]
 cases r with
 |en=>simp only[Row.cw,a7];walk_at "ev"
 |go t =>
  have q:∀{m n:M},aj (m,Row.d (.go t)) (n,.int 1)=some (aG m,.int t):=fun {m n}=>rfl
  simp only[Row.cw,Row.cI,a7]
  walk_at "ev"
  simp -implicitDefEqProofs only [ib,Option.bind_some,dq,dQ,bR,jz,iM,iN,Row.cI]
  walk_at "ev"
  rw[q]
  walk_at "ev"
 |pt a t =>
  have q:∀{m n:M},aj (m,Row.d (.pt a t)) (n,.int 2)=some (aG m,.int t):=fun {m n}=>rfl
  simp only[Row.cw,Row.cI,Row.cS,a7]
  walk_at "ev"
  simp -implicitDefEqProofs only [ib,Option.bind_some,dq,dQ,bR,jz,iM,iN,Row.cI,Row.cS]
  walk_at "ev"
  simp -implicitDefEqProofs only [ib,Option.bind_some,dq,dQ,bR,jz,iM,iN,Row.cI,Row.cS]
  walk_at "ev"
  rw[q]
  walk_at "ev"
 |rk x s a b =>
  simp only[Row.cw,a7]
  walk_at "ev"
  simp -implicitDefEqProofs only [ib,Option.bind_some,dq,dQ,bR,jz,iM,iN,Row.cI,Row.cS]
  walk_at "ev"
  simp -implicitDefEqProofs only [ib,Option.bind_some,dq,dQ,bR,jz,iM,iN,Row.cI,Row.cS]
  walk_at "ev"
 |cp x a =>
  simp only[Row.cw,a7]
  walk_at "ev"
  simp -implicitDefEqProofs only [ib,Option.bind_some,dq,dQ,bR,jz,iM,iN,Row.cI,Row.cS]
  walk_at "ev"
  simp -implicitDefEqProofs only [ib,Option.bind_some,dq,dQ,bR,jz,iM,iN,Row.cI,Row.cS]
  walk_at "ev"
 |sy a =>
  simp only[Row.cw,a7]
  walk_at "ev"
  simp -implicitDefEqProofs only [ib,Option.bind_some,dq,dQ,bR,jz,iM,iN,Row.cI,Row.cS]
  walk_at "ev"
  simp -implicitDefEqProofs only [ib,Option.bind_some,dq,dQ,bR,jz,iM,iN,Row.cI,Row.cS]
  walk_at "ev"
theorem Good.a7{rs:List Row}(h:Good rs){n:Nat}{r:Row}(hn:rs[n]?=some r){m:Int}(hm:m∈a7 n r):0≤m∧m<rs.length:=by
 have aT:n<rs.length:=(bt.mp hn).1
 have nx:¬r=.en→(n:Int)+1<rs.length:=fun ne=>by
  have:n≠rs.length-1:=by
   intro z
   rw[z,h.last]at hn
   exact ne (c9 hn).symm
  omega
 cases r with
 |en=>cases hm
 |go t =>
  have e:m=t:=by simpa[b6.a7]using hm
  have:=h.go n t hn;omega
 |pt a t =>
  have e:m=n+1∨m=t:=by simpa[b6.a7]using hm
  have:=h.pt n a t hn
  have:=nx (fun z=>nomatch z)
  omega
 |rk x s a b =>
  have e:m=n+1:=by simpa[b6.a7]using hm
  have:=nx (fun z=>nomatch z);omega
 |cp x a =>
  have e:m=n+1:=by simpa[b6.a7]using hm
  have:=nx (fun z=>nomatch z);omega
 |sy a =>
  have e:m=n+1:=by simpa[b6.a7]using hm
  have:=nx (fun z=>nomatch z);omega
theorem mC:decide (("+" : Str) = "-")=false:=by decide +kernel
theorem mD:decide (("+" : Str) = "*")=false:=by decide +kernel
theorem mE:decide (("+" : Str) = "&")=false:=by decide +kernel
theorem mF:decide (("+" : Str) = "|")=false:=by decide +kernel
theorem mG:decide (("+" : Str) = "^")=false:=by decide +kernel
theorem mH:decide (("+" : Str) = "<")=false:=by decide +kernel
theorem mI:decide (("+" : Str) = "=")=false:=by decide +kernel
theorem mK:decide (("-" : Str) = "+")=false:=by decide +kernel
theorem mM:decide (("-" : Str) = "*")=false:=by decide +kernel
theorem mN:decide (("-" : Str) = "&")=false:=by decide +kernel
theorem mO:decide (("-" : Str) = "|")=false:=by decide +kernel
theorem mP:decide (("-" : Str) = "^")=false:=by decide +kernel
theorem mQ:decide (("-" : Str) = "<")=false:=by decide +kernel
theorem mR:decide (("-" : Str) = "=")=false:=by decide +kernel
theorem mS:decide (("*" : Str) = "+")=false:=by decide +kernel
theorem mU:decide (("*" : Str) = "-")=false:=by decide +kernel
theorem mV:decide (("*" : Str) = "&")=false:=by decide +kernel
theorem mW:decide (("*" : Str) = "|")=false:=by decide +kernel
theorem mX:decide (("*" : Str) = "^")=false:=by decide +kernel
theorem mY:decide (("*" : Str) = "<")=false:=by decide +kernel
theorem mZ:decide (("*" : Str) = "=")=false:=by decide +kernel
theorem m3:decide (("&" : Str) = "+")=false:=by decide +kernel
theorem m5:decide (("&" : Str) = "-")=false:=by decide +kernel
theorem m6:decide (("&" : Str) = "*")=false:=by decide +kernel
theorem m7:decide (("&" : Str) = "|")=false:=by decide +kernel
theorem m8:decide (("&" : Str) = "^")=false:=by decide +kernel
theorem m9:decide (("&" : Str) = "<")=false:=by decide +kernel
theorem nh:decide (("&" : Str) = "=")=false:=by decide +kernel
theorem ni:decide (("|" : Str) = "+")=false:=by decide +kernel
theorem nr:decide (("|" : Str) = "-")=false:=by decide +kernel
theorem nu:decide (("|" : Str) = "*")=false:=by decide +kernel
theorem ny:decide (("|" : Str) = "&")=false:=by decide +kernel
theorem nA:decide (("|" : Str) = "^")=false:=by decide +kernel
theorem nB:decide (("|" : Str) = "<")=false:=by decide +kernel
theorem nC:decide (("|" : Str) = "=")=false:=by decide +kernel
theorem nE:decide (("^" : Str) = "+")=false:=by decide +kernel
theorem nF:decide (("^" : Str) = "-")=false:=by decide +kernel
theorem nG:decide (("^" : Str) = "*")=false:=by decide +kernel
theorem nH:decide (("^" : Str) = "&")=false:=by decide +kernel
theorem nI:decide (("^" : Str) = "|")=false:=by decide +kernel
theorem nJ:decide (("^" : Str) = "<")=false:=by decide +kernel
theorem nK:decide (("^" : Str) = "=")=false:=by decide +kernel
theorem nL:decide (("<" : Str) = "+")=false:=by decide +kernel
theorem nM:decide (("<" : Str) = "-")=false:=by decide +kernel
theorem nP:decide (("<" : Str) = "*")=false:=by decide +kernel
theorem nQ:decide (("<" : Str) = "&")=false:=by decide +kernel
theorem nR:decide (("<" : Str) = "|")=false:=by decide +kernel
theorem nS:decide (("<" : Str) = "^")=false:=by decide +kernel
theorem nT:decide (("<" : Str) = "=")=false:=by decide +kernel
theorem nU:decide (("=" : Str) = "+")=false:=by decide +kernel
theorem nV:decide (("=" : Str) = "-")=false:=by decide +kernel
theorem nW:decide (("=" : Str) = "*")=false:=by decide +kernel
theorem nX:decide (("=" : Str) = "&")=false:=by decide +kernel
theorem nY:decide (("=" : Str) = "|")=false:=by decide +kernel
theorem nZ:decide (("=" : Str) = "^")=false:=by decide +kernel
theorem n5:decide (("=" : Str) = "<")=false:=by decide +kernel
noncomputable abbrev W:Int:=18446744073709551616
noncomputable def kE(k:Nat)(a b:Int):Int:=match k with
 |0=>(a+b)%W
 |1=>(a-b)%W
 |2=>a*b%W
 |3=>Builtin.bitAnd a b
 |4=>Builtin.bitOr a b
 |5=>Builtin.bitXor a b
 |6=>if a<b then 1 else 0
 |_=>if a=b then 1 else 0
noncomputable def sg(k:Nat):Str:=match k with
 |0 => "+" |1 => "-" |2 => "*" |3 => "&" |4 => "|" |5 => "^" |6 => "<" |_ => "="
theorem k8{k:Nat}(h:k<8):k=0∨k=1∨k=2∨k=3∨k=4∨k=5∨k=6∨k=7:=by omega
theorem Gx(k:Nat)(hk:k<8)(a b:Int)(ha:0≤a∧a<W)(hb:0≤b∧b<W):pU [.str (sg k),.int a,.int b]=some (.fr,.int (kE k a b)):=by
 have hW:W=18446744073709551616:=rfl
 unfold pU fn En
 rcases k8 hk with rfl|rfl|rfl|rfl|rfl|rfl|rfl|rfl<;>simp only[sg,kE]
 ·walk_at "ev"
 ·walk_at "ev"; (simp -implicitDefEqProofs only [mC,mD,mE,mF,mG,mH,mI,mK,mM,mN,mO,mP,mQ,mR,mS,mU,mV,mW,mX,mY,mZ,m3,m5,m6,m7,m8,m9,nh,ni,nr,nu,ny,nA,nB,nC,nE,nF,nG,nH,nI,nJ,nK,nL,nM,nP,nQ,nR,nS,nT,nU,nV,nW,nX,nY,nZ,n5,decide_true,if_true,if_false,reduceIte,Bool.false_eq_true]);walk_at "ev"
 ·walk_at "ev"; (simp -implicitDefEqProofs only [mC,mD,mE,mF,mG,mH,mI,mK,mM,mN,mO,mP,mQ,mR,mS,mU,mV,mW,mX,mY,mZ,m3,m5,m6,m7,m8,m9,nh,ni,nr,nu,ny,nA,nB,nC,nE,nF,nG,nH,nI,nJ,nK,nL,nM,nP,nQ,nR,nS,nT,nU,nV,nW,nX,nY,nZ,n5,decide_true,if_true,if_false,reduceIte,Bool.false_eq_true]);walk_at "ev"; (simp -implicitDefEqProofs only [mC,mD,mE,mF,mG,mH,mI,mK,mM,mN,mO,mP,mQ,mR,mS,mU,mV,mW,mX,mY,mZ,m3,m5,m6,m7,m8,m9,nh,ni,nr,nu,ny,nA,nB,nC,nE,nF,nG,nH,nI,nJ,nK,nL,nM,nP,nQ,nR,nS,nT,nU,nV,nW,nX,nY,nZ,n5,decide_true,if_true,if_false,reduceIte,Bool.false_eq_true]);walk_at "ev"; rw[wU (by omega)];walk_at "ev"
 ·iterate 3 (walk_at "ev"; (simp -implicitDefEqProofs only [mC,mD,mE,mF,mG,mH,mI,mK,mM,mN,mO,mP,mQ,mR,mS,mU,mV,mW,mX,mY,mZ,m3,m5,m6,m7,m8,m9,nh,ni,nr,nu,ny,nA,nB,nC,nE,nF,nG,nH,nI,nJ,nK,nL,nM,nP,nQ,nR,nS,nT,nU,nV,nW,nX,nY,nZ,n5,decide_true,if_true,if_false,reduceIte,Bool.false_eq_true]))
  walk_at "ev"
 ·iterate 4 (walk_at "ev"; (simp -implicitDefEqProofs only [mC,mD,mE,mF,mG,mH,mI,mK,mM,mN,mO,mP,mQ,mR,mS,mU,mV,mW,mX,mY,mZ,m3,m5,m6,m7,m8,m9,nh,ni,nr,nu,ny,nA,nB,nC,nE,nF,nG,nH,nI,nJ,nK,nL,nM,nP,nQ,nR,nS,nT,nU,nV,nW,nX,nY,nZ,n5,decide_true,if_true,if_false,reduceIte,Bool.false_eq_true]))
  walk_at "ev"
 ·iterate 5 (walk_at "ev"; (simp -implicitDefEqProofs only [mC,mD,mE,mF,mG,mH,mI,mK,mM,mN,mO,mP,mQ,mR,mS,mU,mV,mW,mX,mY,mZ,m3,m5,m6,m7,m8,m9,nh,ni,nr,nu,ny,nA,nB,nC,nE,nF,nG,nH,nI,nJ,nK,nL,nM,nP,nQ,nR,nS,nT,nU,nV,nW,nX,nY,nZ,n5,decide_true,if_true,if_false,reduceIte,Bool.false_eq_true]))
  walk_at "ev"
 ·iterate 6 (walk_at "ev"; (simp -implicitDefEqProofs only [mC,mD,mE,mF,mG,mH,mI,mK,mM,mN,mO,mP,mQ,mR,mS,mU,mV,mW,mX,mY,mZ,m3,m5,m6,m7,m8,m9,nh,ni,nr,nu,ny,nA,nB,nC,nE,nF,nG,nH,nI,nJ,nK,nL,nM,nP,nQ,nR,nS,nT,nU,nV,nW,nX,nY,nZ,n5,decide_true,if_true,if_false,reduceIte,Bool.false_eq_true]))
  walk_at "ev"
  by_cases h:a<b<;>simp only[h]<;>walk_at "ev"
 ·iterate 7 (walk_at "ev"; (simp -implicitDefEqProofs only [mC,mD,mE,mF,mG,mH,mI,mK,mM,mN,mO,mP,mQ,mR,mS,mU,mV,mW,mX,mY,mZ,m3,m5,m6,m7,m8,m9,nh,ni,nr,nu,ny,nA,nB,nC,nE,nF,nG,nH,nI,nJ,nK,nL,nM,nP,nQ,nR,nS,nT,nU,nV,nW,nX,nY,nZ,n5,decide_true,if_true,if_false,reduceIte,Bool.false_eq_true]))
  walk_at "ev"
  by_cases h:a=b<;>simp only[h]<;>walk_at "ev"
theorem HJ:∀(n a b:Nat),a<2^n→b<2^n→a+b<2^n+(a&&&b)
 |0,a,b,ha,hb=>by
  have:a=0:=by simpa using ha
  have:b=0:=by simpa using hb
  subst_vars;decide
 |n+1,a,b,ha,hb=>by
  have e:2^(n+1)=2*2^n:=by rw[Nat.pow_succ];omega
  rw[e]at ha hb ⊢
  have ih:=HJ n (a/2) (b/2) (by omega) (by omega)
  have h1:(a&&&b)/2=a/2&&&b/2:=Nat.and_div_two
  have h2:(a&&&b)%2=a%2&&&b%2:=by
   have:=Nat.and_mod_two_pow (a:=a) (b:=b) (n:=1)
   simpa using this
  have p:(a%2=0∧(a&&&b)%2=0)∨(b%2=0∧(a&&&b)%2=0)∨(a%2=1∧b%2=1∧(a&&&b)%2=1):=by
   rcases Nat.mod_two_eq_zero_or_one a with x|x<;>rcases Nat.mod_two_eq_zero_or_one b with y|y<;>rw[h2,x,y]<;>simp
  rw[←h1]at ih
  generalize (a&&&b)=c at ih p ⊢
  generalize 2^n=m at *
  omega
theorem Eu(k:Nat)(a b:Int)(ha:0≤a∧a<W)(hb:0≤b∧b<W)(hk:k<8):0≤kE k a b∧kE k a b<W:=by
 have m:∀x:Int,0≤x%W∧x%W<W:=fun x=>⟨cQ _ (by decide),di _ (by decide)⟩
 have hW:W=18446744073709551616:=rfl
 have e:=PyProof.Rows.bitAnd_pp ha.1 hb.1
 have KD:(2:Nat)^64=18446744073709551616:=by decide
 have hi:=HJ 64 a.toNat b.toNat (by omega) (by omega)
 have l1:a.toNat&&&b.toNat≤a.toNat:=Nat.and_le_left
 have l2:a.toNat&&&b.toNat≤b.toNat:=Nat.and_le_right
 generalize (a.toNat&&&b.toNat)=c at *
 rcases k8 hk with rfl|rfl|rfl|rfl|rfl|rfl|rfl|rfl<;>simp only[kE]
 ·exact m _
 ·exact m _
 ·exact m _
 ·rw[e];omega
 ·rw[PyProof.Rows.bitOr_and,e];omega
 ·rw[PyProof.Rows.bitXor_and,e];omega
 ·split<;>omega
 ·split<;>omega
theorem Ja{s:Str}(h:oC (.str s)=true):∃k,k<8∧s=sg k:=by
 simp only[oC,dW,Md]at h
 simp only[List.any_cons,List.any_nil,Bool.or_false,Bool.or_eq_true,jM,beq_iff_eq]at h
 rcases h with rfl|rfl|rfl|rfl|rfl|rfl|rfl|rfl
 ·exact⟨0,by decide,rfl⟩
 ·exact⟨1,by decide,rfl⟩
 ·exact⟨2,by decide,rfl⟩
 ·exact⟨3,by decide,rfl⟩
 ·exact⟨4,by decide,rfl⟩
 ·exact⟨5,by decide,rfl⟩
 ·exact⟨6,by decide,rfl⟩
 ·exact⟨7,by decide,rfl⟩
noncomputable def lu(s:Str)(a b:Int):Int:=match pU [.str s,.int a,.int b] with
 |some (_,.int i)=>i
 |_=>0
theorem HK{s:Str}(hs:oC (.str s)=true){a b:Int}(ha:0≤a∧a<W)(hb:0≤b∧b<W):pU [.str s,.int a,.int b]=some (.fr,.int (lu s a b))∧0≤lu s a b∧lu s a b<W:=by
 obtain⟨k,hk,rfl⟩:=Ja hs
 have e:=Gx k hk a b ha hb
 have z:lu (sg k) a b=kE k a b:=by unfold lu;rw[e]
 rw[z]
 exact⟨e,Eu k a b ha hb hk⟩
noncomputable def wk(ks:List (Key×D))(x:Str):Int:=match bZ ks (.inr x) with
 |some (.int i)=>i
 |_=>0
structure WK (ks:List (Key×D)):Prop where
 nd:(ks.map (·.1)).Nodup
 iv:∀p∈ks,∃i:Int,p.2=.int i∧0≤i∧i<W
theorem FC{ks:List (Key×D)}{k:Key}{d:D}(h:bZ ks k=some d):∃p∈ks,p.1=k∧p.2=d:=by
 unfold bZ at h
 cases f:ks.find? fun kv=>decide (kv.1=k) with
 |none=>rw[f]at h;cases h
 |some p =>
  rw[f]at h;cases h
  have z:=List.find?_some f
  exact⟨p,Kg f,by simpa using z,rfl⟩
theorem WK.val{ks:List (Key×D)}(h:WK ks)(x:Str):(bZ ks (.inr x)=none∧wk ks x=0)∨(bZ ks (.inr x)=some (.int (wk ks x))∧0≤wk ks x∧wk ks x<W):=by
 cases e:bZ ks (.inr x) with
 |none=>exact .inl ⟨rfl,by unfold wk;rw[e]⟩
 |some d =>
  obtain⟨p,m,e1,e2⟩:=FC e
  obtain⟨i,ei,r⟩:=h.iv p m
  rw[ei]at e2
  have z:wk ks x=i:=by unfold wk;rw[e,←e2]
  exact .inr ⟨by rw[z,e2],by rw[z];exact r⟩
theorem WK.range{ks:List (Key×D)}(h:WK ks)(x:Str):0≤wk ks x∧wk ks x<W:=by
 rcases h.val x with⟨_,z⟩|⟨_,z⟩
 ·rw[z];decide
 ·exact z
theorem P5(ks:List (Key×D))(k:Key)(d:D):(putD ks k d).map (·.1)=ks.map (·.1)∨(k∉ks.map (·.1)∧(putD ks k d).map (·.1)=ks.map (·.1)++[k]):=by
 unfold putD
 split
 ·refine .inl ?_
  rw[yg]
  refine List.map_congr_left fun p _=>?_
  simp only[Function.comp]
  split<;>rfl
 ·rename_i h
  refine .inr ⟨fun w=>h ?_,by rw[dh];rfl⟩
  obtain⟨p,hp,e⟩:=de.mp w
  exact List.any_eq_true.mpr ⟨p,hp,fL e⟩
theorem WK.put{ks:List (Key×D)}(h:WK ks){k:Key}{i:Int}(hi:0≤i∧i<W):WK (putD ks k (.int i)):=by
 refine⟨?_,fun p hp=>?_⟩
 ·rcases P5 ks k (.int i)with e|⟨hn,e⟩
  ·rw[e];exact h.nd
  ·rw[e,yh]
   refine⟨h.nd,by simp,fun a ha b hb=>?_⟩
   have:b=k:=by simpa using hb
   rw[this]
   exact fun w=>hn (w▸ha)
 ·unfold putD at hp
  split at hp
  ·obtain⟨q,hq,rfl⟩:=de.mp hp
   split
   ·exact⟨i,rfl,hi⟩
   ·exact h.iv q hq
  ·rcases fX.mp hp with hp|hp
   ·exact h.iv p hp
   ·have:p=(k,.int i):=by simpa using hp
    rw[this];exact⟨i,rfl,hi⟩
theorem z5{ks:List (Key×D)}{k:Key}{d:D}:(putD ks k d).length≤ks.length+1:=by
 unfold putD
 split<;>simp
theorem WK.bH{ks:List (Key×D)}(h:WK ks):D.bH (ks.map (·.2))=true:=by
 have:∀ks:List (Key×D),(∀p∈ks,∃i:Int,p.2=.int i∧0≤i∧i<W)→D.bH (ks.map (·.2))=true:=by
  intro ks
  induction ks with
  |nil=>intro _;simp only[List.map_nil,D.bH]
  |cons p ks ih =>
   intro h
   obtain⟨i,e,_⟩:=h p cL
   simp only[List.map_cons,D.bH,e,fW,ih fun q hq=>h q (List.mem_cons_of_mem _ hq),Bool.and_self]
 exact this ks h.iv
noncomputable def cn(ks:List (Key×D)):Ko→Int
 |.inl i=>i
 |.inr x=>wk ks x
theorem oa{ks:List (Key×D)}(h:WK ks){k:Ko}(hk:jU k):0≤cn ks k∧cn ks k<W:=by
 cases k with
 |inl i =>
  have z:=hk.1
  simp only[kD,zi,xg,Aq,Bool.false_or,Bool.and_eq_true,decide_eq_true_eq]at z
  exact z
 |inr x=>exact h.range x
theorem FD{ks:List (Key×D)}(h:WK ks)(k:Ko):gD [kD k,.dk ks]=some (.fr,.int (cn ks k)):=by
 unfold gD fn Eo
 cases k with
 |inl i =>
  simp only[kD,cn]
  walk_at "ev"
  simp -implicitDefEqProofs only [D5,Option.bind_some,bR,Bool.false_eq_true,if_false,List.getElem?_cons_zero,id_eq,out,fW,if_true]
 |inr x =>
  simp only[kD,cn]
  have hd:(j5 (jV 1) (jV 0) (jC (.int 0))) [some (.al,.str x),some (.al,.dk ks)]=some (.al,.int (wk ks x))∨(j5 (jV 1) (jV 0) (jC (.int 0))) [some (.al,.str x),some (.al,.dk ks)]=some (.fr,.int (wk ks x)):=by
   simp only[j5,jV,jC,List.getElem?_cons_zero,List.getElem?_cons_succ,Option.bind_some,id_eq,kC,keyOf]
   rcases h.val x with⟨e,z⟩|⟨e,_⟩
   ·rw[e,z];right;simp[fW]
   ·rw[e];left;rfl
  have ht:(jB (aD eR (ag (jV 0) (ag (jC (.ty "str")) ah)))) [some (.al,.str x),some (.al,.dk ks)]=some true:=by
   walk_at "ev"
   simp -implicitDefEqProofs only [D4,Option.bind_some,bR]
  simp -implicitDefEqProofs only [List.map_cons,List.map_nil,List.length_cons,List.length_nil,Nat.reduceAdd,Nat.sub_self,List.replicate,List.append_nil,aw,aL,ht,Option.bind_some,if_true,aP]
  rcases hd with hd|hd<;>rw[hd]<;>simp -implicitDefEqProofs only [Option.bind_some,out,fW,if_true]
noncomputable def a6(r:Row)(ks:List (Key×D))(sd:List Int):List (Key×D)×List Int:=match r with
 |.rk x s a b=>(putD ks (.inr x) (.int (lu s (cn ks a) (cn ks b))),sd)
 |.cp x a=>(putD ks (.inr x) (.int (cn ks a)),sd)
 |.sy a=>(ks,sd++[cn ks a])
 |_=>(ks,sd)
theorem xh{r:Row}(hr:RV r){ks:List (Key×D)}(h:WK ks)(sd:List Int):WK (a6 r ks sd).1∧(a6 r ks sd).1.length≤ks.length+1∧(a6 r ks sd).2.length≤sd.length+1:=by
 cases r with
 |rk x s a b=>exact⟨h.put (HK hr.2.1.1 (oa h hr.2.2.1) (oa h hr.2.2.2)).2,z5,Nat.le_succ _⟩
 |cp x a=>exact⟨h.put (oa h hr.2),z5,Nat.le_succ _⟩
 |sy a=>exact⟨h,Nat.le_succ _,by simp[a6]⟩
 |go t=>exact⟨h,Nat.le_succ _,Nat.le_succ _⟩
 |pt a t=>exact⟨h,Nat.le_succ _,Nat.le_succ _⟩
 |en=>exact⟨h,Nat.le_succ _,Nat.le_succ _⟩
theorem P6(a b c:D):ik [1,2] [a,b,c]=[some (.al,a),some (.bi,b),some (.bi,c)]:=rfl
theorem eJ(r:Row)(w:Str)(x y:Option (M×D)):(jB (ae aQ (ae aj (jV 0) (jC (.int 0))) (jC (.str w)))) [some (.al,r.d),x,y]=some (decide (r.word=w)):=by
 have e:L2.aX r.ds 0=some (.str r.word):=r.rF
 simp -implicitDefEqProofs only [jB,ae,jV,jC,List.getElem?_cons_zero,Option.bind_some,id_eq,Row.d,kf,e,Option.map_some,dQ,bR]
theorem ql{r:Row}{ks:List (Key×D)}{sd:List Int}(h:WK ks):kg [1,2] (.nx [some (.al,r.d),some (.bi,.dk ks),some (.bi,.lst (sd.map .int))])=some (.fr,.non,[.dk ks,.lst (sd.map .int)]):=by
 simp only[kg,out,envOf,J.collect,List.getElem?_cons_zero,List.getElem?_cons_succ,dZ,h.bH,gW,if_true,Option.bind_some]
theorem HL{r:Row}{ks:List (Key×D)}{sd:List Int}(hl:ks.length≤9000){fk fv:Ev→Option (M×D)}{x:Str}{i:Int}(hk:fk [some (.al,r.d),some (.bi,.dk ks),some (.bi,.lst (sd.map .int))]=some (.al,.str x))(hv:fv [some (.al,r.d),some (.bi,.dk ks),some (.bi,.lst (sd.map .int))]=some (.fr,.int i)) :
  fH 1 fk fv [some (.al,r.d),some (.bi,.dk ks),some (.bi,.lst (sd.map .int))]=some (.nx [some (.al,r.d),some (.bi,.dk (putD ks (.inr x) (.int i))),some (.bi,.lst (sd.map .int))]):=by
 have hs:ks.length<sizeLine:=dJ hl (by decide)
 simp only[fH,hk,hv,Option.bind_some,keyOf,bM,if_true,jw,own,List.getElem?_cons_zero,List.getElem?_cons_succ,hs,List.set_cons_zero,List.set_cons_succ]
theorem wC{r:Row}{x y:Option (M×D)}{j:Nat}{i:Int}{d:D}(hi:i=(j:Int))(hj:r.ds[j]?=some d):(ae aj (jV 0) (jC (.int i))) [some (.al,r.d),x,y]=some (.al,d):=by
 have hl:j<r.ds.length:=by
  rcases hJ j r.ds.length with h|h
  ·exact h
  ·rw[jG h]at hj;cases hj
 subst hi
 have e:L2.aX r.ds (j:Int)=some d:=by rw[gY hl,←hj,bO hl]
 simp -implicitDefEqProofs only [ae,jV,jC,List.getElem?_cons_zero,Option.bind_some,id_eq,Row.d,kf,e,Option.map_some,dq]
theorem vL{r:Row}{ks:List (Key×D)}(h:WK ks){y:Option (M×D)}{j:Nat}{i:Int}{k:Ko}(hi:i=(j:Int))(hj:r.ds[j]?=some (kD k)):(aI gD (ag (ae aj (jV 0) (jC (.int i))) (ag (jV 1) ah))) [some (.al,r.d),some (.bi,.dk ks),y]=some (.fr,.int (cn ks k)):=by
 simp -implicitDefEqProofs only [aI,ag,ah,wC hi hj,Option.bind_some,jV,List.getElem?_cons_zero,List.getElem?_cons_succ,id_eq,List.map_cons,List.map_nil,FD h]
theorem tL{F:List D→Option (M×D)}{f1 f2 f3:Ev→Option (M×D)}{e:Ev}{a b c:M×D}(h1:f1 e=some a)(h2:f2 e=some b)(h3:f3 e=some c):aI F (ag f1 (ag f2 (ag f3 ah))) e=F [a.2,b.2,c.2]:=by
 simp only[aI,ag,ah,h1,h2,h3,Option.bind_some,List.map_cons,List.map_nil]
theorem Wf{r:Row}(hr:RV r){ks:List (Key×D)}(h:WK ks)(hl:ks.length≤9000)(sd:List Int)(hs:sd.length≤9000):pW [r.d,.dk ks,.lst (sd.map .int)]=some (.fr,.non,[.dk (a6 r ks sd).1,.lst ((a6 r ks sd).2.map .int)]):=by
 have w1:∀{w v:Str},w≠v→decide (w=v)=false:=fun h=>fJ h
 unfold pW jt Ft
 rw[P6,cz,cz,cz,uk,Nat.sub_self,List.replicate_zero,oV]
 have q:=xh hr h sd
 cases r with
 |rk x s a b =>
  have e1:=vL (r:=.rk x s a b) (y:=some (.bi,.lst (sd.map .int))) h (j:=3) (i:=3) (k:=a) rfl rfl
  have e2:=vL (r:=.rk x s a b) (y:=some (.bi,.lst (sd.map .int))) h (j:=4) (i:=4) (k:=b) rfl rfl
  have e3:=wC (r:=.rk x s a b) (x:=some (.bi,.dk ks)) (y:=some (.bi,.lst (sd.map .int))) (j:=2) (i:=2) (d:=.str s) rfl rfl
  have e4:=wC (r:=.rk x s a b) (x:=some (.bi,.dk ks)) (y:=some (.bi,.lst (sd.map .int))) (j:=1) (i:=1) (d:=.str x) rfl rfl
  have ev:=(HK hr.2.1.1 (oa h hr.2.2.1) (oa h hr.2.2.2)).1
  rw[aN (by rw[dC (by rw[eJ];rfl)];exact HL hl e4 ((tL e3 e1 e2).trans ev)),
   aN (bj (by rw[eJ];rfl)),bj (by rw[eJ];rfl)]
  simp only[a8,Option.bind_some]
  exact ql q.1
 |cp x a =>
  have e1:=vL (r:=.cp x a) (y:=some (.bi,.lst (sd.map .int))) h (j:=2) (i:=2) (k:=a) rfl rfl
  have e4:=wC (r:=.cp x a) (x:=some (.bi,.dk ks)) (y:=some (.bi,.lst (sd.map .int))) (j:=1) (i:=1) (d:=.str x) rfl rfl
  rw[aN (bj (by rw[eJ];rfl)),aN (by rw[dC (by rw[eJ];rfl)];exact HL hl e4 e1),bj (by rw[eJ];rfl)]
  simp only[a8,Option.bind_some]
  exact ql q.1
 |sy a =>
  have e1:=vL (r:=.sy a) (y:=some (.bi,.lst (sd.map .int))) h (j:=1) (i:=1) (k:=a) rfl rfl
  have hsz:(sd.map D.int).length<sizeLine:=by rw[aU];exact dJ hs (by decide)
  rw[aN (bj (by rw[eJ];rfl)),aN (bj (by rw[eJ];rfl)),dC (by rw[eJ];rfl)]
  simp -implicitDefEqProofs only [bN,e1,Option.bind_some,bM,if_true,gO,own,List.getElem?_cons_zero,List.getElem?_cons_succ,hsz,List.set_cons_zero,List.set_cons_succ]
  have z:sd.map D.int++[.int (cn ks a)]=(sd++[cn ks a]).map .int:=by simp
  rw[z]
  exact ql q.1
 |go t =>
  rw[aN (bj (by rw[eJ];rfl)),aN (bj (by rw[eJ];rfl)),bj (by rw[eJ];rfl)]
  exact ql h
 |pt a t =>
  rw[aN (bj (by rw[eJ];rfl)),aN (bj (by rw[eJ];rfl)),bj (by rw[eJ];rfl)]
  exact ql h
 |en =>
  rw[aN (bj (by rw[eJ];rfl)),aN (bj (by rw[eJ];rfl)),bj (by rw[eJ];rfl)]
  exact ql h
noncomputable def cf(ks:List (Key×D))(n:Int):Row→Int
 |.go t=>t
 |.pt a t=>if cn ks a=0 then n+1 else t
 |_=>n+1
theorem call2{F:List D→Option (M×D)}{f1 f2:Ev→Option (M×D)}{e:Ev}{a b:M×D}(h1:f1 e=some a)(h2:f2 e=some b):aI F (ag f1 (ag f2 ah)) e=F [a.2,b.2]:=by
 simp only[aI,ag,ah,h1,h2,Option.bind_some,List.map_cons,List.map_nil]
theorem Jb{F:List D→Option (M×D)}{f1:Ev→Option (M×D)}{e:Ev}{a:M×D}(h1:f1 e=some a):aI F (ag f1 ah) e=F [a.2]:=by
 simp only[aI,ag,ah,h1,Option.bind_some,List.map_cons,List.map_nil]
theorem UZ{rs:List Row}{n:Nat}{r:Row}(hn:rs[n]?=some r)(hr:r≠.en){ks:List (Key×D)}(h:WK ks):rS [.lst (rs.map Row.d),.int n,.dk ks]=some (.fr,.int (cf ks n r)):=by
 have hl:n<rs.length:=by
  rcases hJ n rs.length with h|h
  ·exact h
  ·rw[jG h]at hn;cases hn
 have ha:L2.aX (rs.map Row.d) (n:Int)=some r.d:=by
  rw[gY (by rw[aU];exact hl),lX]
  rw[bO hl]at hn
  cases hn;rfl
 have ef:=UY rs n r hn
 unfold rS fn DW
 have s1:aH 3 (ae aj (jV 0) (jV 1)) [some (.al,.lst (rs.map Row.d)),some (.al,.int n),some (.al,.dk ks),none,none]=some (.nx [some (.al,.lst (rs.map Row.d)),some (.al,.int n),some (.al,.dk ks),some (.al,r.d),none]):=by
  simp -implicitDefEqProofs only [aH,ae,jV,List.getElem?_cons_zero,List.getElem?_cons_succ,Option.bind_some,id_eq,iy,ha,Option.map_some,dq,vS,List.set_cons_zero,List.set_cons_succ]
 have s2:aH 4 (aI pQ (ag (jV 0) (ag (jV 1) ah))) [some (.al,.lst (rs.map Row.d)),some (.al,.int n),some (.al,.dk ks),some (.al,r.d),none]=some (.nx [some (.al,.lst (rs.map Row.d)),some (.al,.int n),some (.al,.dk ks),some (.al,r.d),some (.bo,.lst ((a7 n r).map .int))]):=by
  have c:=call2 (F:=pQ) (f1:=jV 0) (f2:=jV 1) (e:=[some (.al,.lst (rs.map Row.d)),some (.al,.int n),some (.al,.dk ks),some (.al,r.d),none]) (a:=(.al,.lst (rs.map Row.d))) (b:=(.al,.int n)) rfl rfl
  simp -implicitDefEqProofs only [aH,c,ef,Option.bind_some,oi,List.set_cons_zero,List.set_cons_succ]
 have e3:jV 3 [some (.al,.lst (rs.map Row.d)),some (.al,.int n),some (.al,.dk ks),some (.al,r.d),some (.bo,.lst ((a7 n r).map .int))]=some (.al,.tup r.ds):=rfl
 have DJ:(jB (ae aQ (ae aj (jV 3) (jC (.int 0))) (jC (.str "part")))) [some (.al,.lst (rs.map Row.d)),some (.al,.int n),some (.al,.dk ks),some (.al,r.d),some (.bo,.lst ((a7 n r).map .int))]=some (decide (r.word = "part")):=by
  have e:L2.aX r.ds 0=some (.str r.word):=r.rF
  simp -implicitDefEqProofs only [jB,ae,e3,jC,Option.bind_some,kf,e,Option.map_some,dQ,bR]
 have ret:∀{j:Nat}{i t:Int},i=(j:Int)→(a7 n r)[j]?=some t→aP (ae aj (jV 4) (jC (.int i))) [some (.al,.lst (rs.map Row.d)),some (.al,.int n),some (.al,.dk ks),some (.al,r.d),some (.bo,.lst ((a7 n r).map .int))]=some (.rt [some (.al,.lst (rs.map Row.d)),some (.al,.int n),some (.al,.dk ks),some (.al,r.d),some (.bo,.lst ((a7 n r).map .int))] .fr (.int t)):=fun {j i t} hi ht=>by
  subst hi
  have hj:j<((a7 n r).map D.int).length:=by
   rw[aU]
   rcases hJ j (a7 n r).length with h|h
   ·exact h
   ·rw[jG h]at ht;cases ht
  have e:L2.aX ((a7 n r).map D.int) (j:Int)=some (.int t):=by
   rw[gY hj,lX]
   rw[bO (by simpa using hj)]at ht
   cases ht;rfl
  have e4:jV 4 [some (.al,.lst (rs.map Row.d)),some (.al,.int n),some (.al,.dk ks),some (.al,r.d),some (.bo,.lst ((a7 n r).map .int))]=some (.bo,.lst ((a7 n r).map .int)):=rfl
  simp -implicitDefEqProofs only [aP,ae,e4,jC,Option.bind_some,iy,e,Option.map_some,wm]
 simp -implicitDefEqProofs only [List.map_cons,List.map_nil,List.length_cons,List.length_nil,Nat.reduceAdd,Nat.reduceSub,List.replicate,List.cons_append,List.nil_append]
 rw[aN s1,aN s2]
 have plain:r.word ≠ "part" → (a7 n r)[0]?=some (cf ks n r)→(aw (aL (bY (jB (ae aQ (ae aj (jV 3) (jC (.int 0))) (jC (.str "part")))) (jB (ae bV (aI gD (ag (ae aj (jV 3) (jC (.int 1))) (ag (jV 2) ah))) (jC (.int 0)))))
   (aP (ae aj (jV 4) (jC (.int 1)))) a8) (aP (ae aj (jV 4) (jC (.int 0)))) [some (.al,.lst (rs.map Row.d)),some (.al,.int n),some (.al,.dk ks),some (.al,r.d),some (.bo,.lst ((a7 n r).map .int))]).bind out=some (.fr,.int (cf ks n r)):=fun hw h0=>by
  rw[aN (e':=[some (.al,.lst (rs.map Row.d)),some (.al,.int n),some (.al,.dk ks),some (.al,r.d),some (.bo,.lst ((a7 n r).map .int))]) (by rw[bj (by simp only[bY,DJ,Option.bind_some,decide_eq_false hw,Bool.false_eq_true,if_false])];rfl),ret (j:=0) (i:=0) rfl h0]
  rfl
 cases r with
 |rk x s a b=>exact plain (by show("reckon" : Str) ≠ "part"; decide +kernel) rfl
 |cp x a=>exact plain (by show("copy" : Str) ≠ "part"; decide +kernel) rfl
 |sy a=>exact plain (by show("say" : Str) ≠ "part"; decide +kernel) rfl
 |go t=>exact plain (by show("go" : Str) ≠ "part"; decide +kernel) rfl
 |en=>exact absurd rfl hr
 |pt a t =>
  have ew:(jB (ae bV (aI gD (ag (ae aj (jV 3) (jC (.int 1))) (ag (jV 2) ah))) (jC (.int 0)))) [some (.al,.lst (rs.map Row.d)),some (.al,.int n),some (.al,.dk ks),some (.al,(Row.pt a t).d),some (.bo,.lst ((a7 n (.pt a t)).map .int))]=some (!decide (cn ks a=0)):=by
   have c:=call2 (F:=gD) (f1:=ae aj (jV 3) (jC (.int 1))) (f2:=jV 2) (e:=[some (.al,.lst (rs.map Row.d)),some (.al,.int n),some (.al,.dk ks),some (.al,(Row.pt a t).d),some (.bo,.lst ((a7 n (.pt a t)).map .int))]) (a:=(.al,kD a)) (b:=(.al,.dk ks)) rfl rfl
   have c2:aI gD (ag (ae aj (jV 3) (jC (.int 1))) (ag (jV 2) ah)) [some (.al,.lst (rs.map Row.d)),some (.al,.int n),some (.al,.dk ks),some (.al,(Row.pt a t).d),some (.bo,.lst ((a7 n (.pt a t)).map .int))]=some (.fr,.int (cn ks a)):=c.trans (FD h a)
   show((ae bV _ _ _).bind fQ)=_
   simp -implicitDefEqProofs only [ae,c2,jC,Option.bind_some,lI,bR]
  by_cases hz:cn ks a=0
  ·have hb:cf ks n (.pt a t)=n+1:=by simp only[cf,hz,if_true]
   rw[hb]
   rw[aN (e':=[some (.al,.lst (rs.map Row.d)),some (.al,.int n),some (.al,.dk ks),some (.al,(Row.pt a t).d),some (.bo,.lst ((a7 n (.pt a t)).map .int))]) (by rw[bj (by simp only[bY,DJ,ew,Option.bind_some,hz];rfl)];rfl),ret (j:=0) (i:=0) (t:=n+1) rfl rfl]
   rfl
  ·have hb:cf ks n (.pt a t)=t:=by simp only[cf,hz,if_false]
   rw[hb]
   rw[qh (by rw[dC (by simp only[bY,DJ,ew,Option.bind_some,hz];rfl)];exact ret (j:=1) (i:=1) (t:=t) rfl rfl)]
   rfl
noncomputable def nz:D→Bool
 |.int i=>!decide (i=0)
 |_=>false
noncomputable def bB(ks:List (Key×D)):List (Key×D):=ks.filter fun p=>nz p.2
theorem zt(k:Key):keyOf (cg k)=some k:=by cases k<;>rfl
theorem Gy{ks:List (Key×D)}{k:Key}{d:D}(h:k∉ks.map (·.1)):putD ks k d=ks++[(k,d)]:=by
 unfold putD
 rw[if_neg]
 intro w
 obtain⟨p,hp,e⟩:=List.any_eq_true.mp w
 exact h (de.mpr ⟨p,hp,by simpa using e⟩)
theorem zH(ks:List (Key×D)):∀(l acc:List (Key×D)) (o2 o3:Option (M×D)),((acc++l).map (·.1)).Nodup→(∀p∈l,∃i:Int,p.2=.int i)→(acc++l).length≤9000 →
    ∃Dj YQ,forL (gT 2 (b8 (gN 2) (b8 (gN 3) fG))) pO .al (jh l) [some (.al,.dk ks),some (.bo,.dk acc),o2,o3]=some (.nx [some (.al,.dk ks),some (.bo,.dk (acc++bB l)),Dj,YQ])
  |[],acc,o2,o3,_,_,_=>⟨o2,o3,by simp[jh,forL,bB]⟩
  | (k,d)::l,acc,o2,o3,hn,hv,hl=>by
    obtain⟨i,ei⟩:=hv (k,d) cL
    obtain rfl:d=.int i:=ei
    have cF:∀p∈l,∃i:Int,p.2=.int i:=fun p hp=>hv p (cT _ hp)
    have hs:acc.length<sizeLine:=dJ (by rw[b9]at hl;omega:acc.length≤9000) (by decide)
    have hk:k∉acc.map (·.1):=by
      rw[dh,yh]at hn
      intro w
      exact hn.2.2 k w k (by simp) rfl
    have g:(gT 2 (b8 (gN 2) (b8 (gN 3) fG))) (.al,.tup [cg k,.int i]) [some (.al,.dk ks),some (.bo,.dk acc),o2,o3]=some [some (.al,.dk ks),some (.bo,.dk acc),some (.al,cg k),some (.al,.int i)]:=by
      simp only[gT,b8,fG,gN,List.length_cons,List.length_nil,Nat.reduceAdd,if_true,dq,Option.bind_some,List.set_cons_zero,List.set_cons_succ]
    have t:(jB (ae bV (jV 3) (jC (.int 0)))) [some (.al,.dk ks),some (.bo,.dk acc),some (.al,cg k),some (.al,.int i)]=some (!decide (i=0)):=by
      simp -implicitDefEqProofs only [jB,ae,jV,jC,List.getElem?_cons_zero,List.getElem?_cons_succ,Option.bind_some,id_eq,lI,bR]
    have hm:jh ((k,.int i)::l)=.tup [cg k,.int i]::jh l:=rfl
    rw[hm,forL,g,aB]
    by_cases hz:i=0
    · have b:pO [some (.al,.dk ks),some (.bo,.dk acc),some (.al,cg k),some (.al,.int i)]=some (.nx [some (.al,.dk ks),some (.bo,.dk acc),some (.al,cg k),some (.al,.int i)]):=by
        unfold pO
        rw[bj (by rw[t,hz];rfl)];rfl
      rw[b,aB]
      have e:bB ((k,.int i)::l)=bB l:=by simp[bB,nz,hz]
      rw[e]
      refine zH ks l acc _ _ ?_ cF ?_
      · rw[dh,bF]at hn
        rw[dh]
        exact hn.sublist (List.Sublist.append_left (List.sublist_cons_self _ _) _)
      · rw[b9,cz]at hl;rw[b9];omega
    · have b:pO [some (.al,.dk ks),some (.bo,.dk acc),some (.al,cg k),some (.al,.int i)]=some (.nx [some (.al,.dk ks),some (.bo,.dk (acc++[(k,.int i)])),some (.al,cg k),some (.al,.int i)]):=by
        unfold pO
        rw[dC (by rw[t,fJ hz];rfl)]
        simp only[fH,jV,List.getElem?_cons_zero,List.getElem?_cons_succ,Option.bind_some,id_eq,zt,bM,fW,if_true,jw,own,hs,List.set_cons_zero,List.set_cons_succ,Gy hk]
      rw[b,aB]
      have e:acc++bB ((k,.int i)::l)=(acc++[(k,.int i)])++bB l:=by simp[bB,nz,hz]
      rw[e]
      exact zH ks l (acc++[(k,.int i)]) _ _ (by simpa using hn) cF (by simpa using hl)
theorem U0{ks:List (Key×D)}(h:WK ks)(hl:ks.length≤9000):n6 [.dk ks]=some (.un,.dk (bB ks)):=by
 obtain⟨o2,o3,e⟩:=zH ks ks [] none none (by simpa using h.nd) (fun p hp=>let ⟨i,ei,_⟩:=h.iv p hp;⟨i,ei⟩) (by simpa using hl)
 unfold n6 fn DN
 simp -implicitDefEqProofs only [List.map_cons,List.map_nil,List.length_cons,List.length_nil,Nat.reduceAdd,Nat.reduceSub,List.replicate,List.cons_append,List.nil_append]
 rw[aN (e':=[some (.al,.dk ks),some (.bo,.dk []),none,none]) rfl,aN (e':=[some (.al,.dk ks),some (.bo,.dk ([]++bB ks)),o2,o3]) (by
  show forL _ _ .al (jh ks) _=_
  exact e)]
 simp -implicitDefEqProofs only [aP,jV,List.getElem?_cons_zero,List.getElem?_cons_succ,Option.bind_some,id_eq,out,List.nil_append]
theorem v3{ks:List (Key×D)}:(bB ks).Sublist ks:=List.filter_sublist
theorem As{ks:List (Key×D)}(h:WK ks):WK (bB ks):=⟨h.nd.sublist (v3.map _),fun p hp=>h.iv p (v3.subset hp)⟩
theorem zB{ks:List (Key×D)}(h:(ks.map (·.1)).Nodup){p:Key×D}(hp:p∈ks):bZ ks p.1=some p.2:=by
 obtain⟨i,hi⟩:=List.getElem?_of_mem hp
 exact zp (i:=i) h hi
theorem Oj{ks ls:List (Key×D)}(h:WK ks)(h':WK ls)(e:∀k,bZ ks k=bZ ls k):lh (.dk ks) (.dk ls)=some true:=by
 have sh:∀{ks:List (Key×D)},WK ks→gw (ks.map (·.2))=true:=fun {ks} h=>by
  have:∀ks:List (Key×D),(∀p∈ks,∃i:Int,p.2=.int i∧0≤i∧i<W)→cC (ks.map (·.2))=true∧∀d∈ks.map (·.2),(toPy d).depth≤40:=by
   intro ks
   induction ks with
   |nil=>intro _;exact⟨by simp[cC],fun d m=>by cases m⟩
   |cons p ks ih =>
    intro h
    obtain⟨i,ei,_⟩:=h p cL
    obtain⟨i1,i2⟩:=ih fun q hq=>h q (cT _ hq)
    refine⟨by simp[cC,ei,J.plain,i1],fun d m=>?_⟩
    rcases fK.mp (by simpa using m:d∈p.2::ks.map (·.2))with rfl|m
    ·rw[ei];simp[toPy,PyData.depth]
    ·exact i2 d m
  obtain⟨a,b⟩:=this ks h.iv
  simp only[gw,a,Bool.true_and,List.all_eq_true,decide_eq_true_eq]
  exact b
 have keys:∀{ks ls:List (Key×D)},(∀k,bZ ks k=bZ ls k)→WK ks→∀k,k∈ks.map (·.1)→k∈ls.map (·.1):=fun {ks ls} e h k hk=>by
  obtain⟨p,hp,rfl⟩:=de.mp hk
  have q:=zB h.nd hp
  rw[e]at q
  obtain⟨r,hr,e1,_⟩:=FC q
  exact de.mpr ⟨r,hr,e1⟩
 have perm:(ks.map (·.1)).Perm (ls.map (·.1)):=(List.perm_ext_iff_of_nodup h.nd h'.nd).mpr fun k=>⟨keys e h k,keys (fun k=>(e k).symm) h' k⟩
 have len:ks.length=ls.length:=by simpa using perm.length_eq
 have hit:hitsD ls ks=true:=zq fun kd m=>by
  have q:=zB h.nd m
  rw[e]at q
  obtain⟨i,ei,_⟩:=h.iv kd m
  exact⟨kd.2,q,by rw[ei];simp[toPy,PyData.eqv]⟩
 simp only[lh,sh h,sh h',Bool.and_self,if_true,len,hit,beq_self_eq_true]
noncomputable def cw:Row→Bool
 |.en=>true
 |_=>false
structure RS where
 b:Bool
 ks:List (Key×D)
 sd:List Int
 wy:List Int
noncomputable def bE(rs:List Row):Nat→List (Key×D)→List Int→List Int→Nat→RS
 |0,ks,sd,wy,_=>⟨false,ks,sd,wy⟩
 |f+1,ks,sd,wy,n=>match rs[n]? with
  |none=>⟨false,ks,sd,wy⟩
  |some r=>if cw r=true then ⟨true,ks,sd,wy++[(n:Int)]⟩ else bE rs f (a6 r ks sd).1 (a6 r ks sd).2 (wy++[(n:Int)]) (cf (a6 r ks sd).1 n r).toNat
noncomputable def bK(q:RS):D:=.tup [.str (if q.b=true then "end" else "spent"),.lst (q.sd.map .int),.dk (bB q.ks),.lst (q.wy.map .int)]
noncomputable def bL(R N:D)(most:Int)(ks:List (Key×D))(sd wy:List Int)(n:Int):Ev:=[some (.al,R),some (.al,N),some (.al,.int most),some (.bo,.dk ks),some (.bo,.lst (sd.map .int)),some (.bo,.lst (wy.map .int)),some (.fr,.int n)]
theorem Gz(w:Str){R N:D}{most:Int}{ks:List (Key×D)}{sd wy:List Int}{n:Int}(h:WK ks)(hl:ks.length≤9000):qz (ag (jC (.str w)) (ag (jV 4) (ag (aI n6 (ag (jV 3) ah)) (ag (jV 5) ah)))) (bL R N most ks sd wy n) =
  some (.rt ((bL R N most ks sd wy n).map fun _=>none) .ut (.tup [.str w,.lst (sd.map .int),.dk (bB ks),.lst (wy.map .int)])):=by
 have c:aI n6 (ag (jV 3) ah) (bL R N most ks sd wy n)=some (.un,.dk (bB ks)):=(Jb (a:=(.bo,.dk ks)) rfl).trans (U0 h hl)
 have e4:jV 4 (bL R N most ks sd wy n)=some (.bo,.lst (sd.map .int)):=rfl
 have e5:jV 5 (bL R N most ks sd wy n)=some (.bo,.lst (wy.map .int)):=rfl
 simp only[qz,ag,ah,jC,c,e4,e5,Option.bind_some]
 rw[if_pos ⟨by show 4≤sizeLine;decide,by simp[vf,D.bx,dZ,gW,(As h).bH]⟩]
 rfl
theorem z6{ks:List (Key×D)}{n:Int}{r:Row}(h:cw r=false):cf ks n r∈a7 n r:=by
 cases r with
 |pt a t=>simp only[cf,a7];split<;>simp
 |en=>cases h
 |_=>simp[cf,a7]
theorem run_io{R r:D}{ks Ml:List (Key×D)}{sd Mm:List Int}{N:D}{most n:Int}{wy:List Int}(hr:r.bx=true)(hi:D.bH (ks.map (·.2))=true)(e:pW [r,.dk ks,.lst (sd.map .int)]=some (.fr,.non,[.dk Ml,.lst (Mm.map .int)])){f:Ev→Option (M×D)}(hf:f (bL R N most ks sd wy n)=some (.al,r)) :
  i7 [1,2] [3,4] [(1,3),(2,4)] pW (ag f (ag (jV 3) (ag (jV 4) ah))) (bL R N most ks sd wy n)=some (.nx (bL R N most Ml Mm wy n)):=by
 have hB:k9 [1,2] [3,4] [(1,3),(2,4)] [(.al,r),(.bo,.dk ks),(.bo,.lst (sd.map .int))]=true:=by
  simp[k9,List.range_succ,own,dZ,gi,hr,hi,gW]
 have e3:jV 3 (bL R N most ks sd wy n)=some (.bo,.dk ks):=rfl
 have e4:jV 4 (bL R N most ks sd wy n)=some (.bo,.lst (sd.map .int)):=rfl
 simp -implicitDefEqProofs only [i7,pZ,ag,ah,e3,e4,hf,Option.bind_some,hB,if_true,List.map_cons,List.map_nil,e,iz]
 rfl
theorem FE{r:Row}(h:r≠.en):decide (r.word = "end")=false:=by
 cases r with
 |en=>exact absurd rfl h
 |rk=>exact(by decide +kernel:decide (("reckon" : Str) = "end")=false)
 |cp=>exact(by decide +kernel:decide (("copy" : Str) = "end")=false)
 |sy=>exact(by decide +kernel:decide (("say" : Str) = "end")=false)
 |go=>exact(by decide +kernel:decide (("go" : Str) = "end")=false)
 |pt=>exact(by decide +kernel:decide (("part" : Str) = "end")=false)
theorem P7{rs:List Row}(g:Good rs)(rv:∀r∈rs,RV r)(N:D)(most:Int):∀(f:Nat) (ks:List (Key×D)) (sd wy:List Int) (n:Nat),WK ks→ks.length+f≤9000→sd.length+f≤9000→(wy.length:Int)+f=most→most≤9000→n<rs.length →
  ((bE rs f ks sd wy n).b=true→∃e',dP j0 jZ (f+1) (bL (.lst (rs.map Row.d)) N most ks sd wy n)=some (.rt e' .ut (bK (bE rs f ks sd wy n)))) ∧
  ((bE rs f ks sd wy n).b=false→∃n',dP j0 jZ (f+1) (bL (.lst (rs.map Row.d)) N most ks sd wy n)=some (.nx (bL (.lst (rs.map Row.d)) N most (bE rs f ks sd wy n).ks (bE rs f ks sd wy n).sd (bE rs f ks sd wy n).wy n')))∧WK (bE rs f ks sd wy n).ks∧(bE rs f ks sd wy n).ks.length≤9000:=by
 intro f
 induction f with
 |zero =>
  intro ks sd wy n h hk hs hw hm hn
  have c:j0 (bL (.lst (rs.map Row.d)) N most ks sd wy n)=some false:=by
   unfold j0 bL
   walk_at "ev"
   rw[fJ (by omega)]
  refine⟨fun z=>by simp[bE]at z,fun _=>⟨n,?_⟩,h,hk⟩
  rw[dP,c];rfl
 |succ f ih =>
  intro ks sd wy n h hk hs hw hm hn
  have c:j0 (bL (.lst (rs.map Row.d)) N most ks sd wy n)=some true:=by
   unfold j0 bL
   walk_at "ev"
   rw[fL (by omega)]
  have hr:rs[n]?=some rs[n]:=bO hn
  have uf:rs[n]∈rs:=qW hn
  generalize rs[n]=r at hr uf
  have s1:bN 5 (jV 6) (bL (.lst (rs.map Row.d)) N most ks sd wy n)=some (.nx (bL (.lst (rs.map Row.d)) N most ks sd (wy++[(n:Int)]) n)):=by
   have hz:(wy.map D.int).length<sizeLine:=by rw[aU];exact dJ (by omega:wy.length≤9000) (by decide)
   have z:(wy++[(n:Int)]).map D.int=wy.map .int++[.int n]:=by simp
   unfold bL
   rw[z]
   simp -implicitDefEqProofs only [bN,jV,List.getElem?_cons_zero,List.getElem?_cons_succ,Option.bind_some,id_eq,bM,if_true,gO,own,hz,List.set_cons_zero,List.set_cons_succ]
  have ha:L2.aX (rs.map Row.d) (n:Int)=some r.d:=by
   rw[gY (by rw[aU];exact hn),lX]
   rw[bO hn]at hr
   cases hr;rfl
  have gU:(ae aj (jV 0) (jV 6)) (bL (.lst (rs.map Row.d)) N most ks sd (wy++[(n:Int)]) n)=some (.al,r.d):=by
   unfold bL
   simp -implicitDefEqProofs only [ae,jV,List.getElem?_cons_zero,List.getElem?_cons_succ,Option.bind_some,id_eq,iy,ha,Option.map_some,dq]
  have t:(jB (ae aQ (ae aj (ae aj (jV 0) (jV 6)) (jC (.int 0))) (jC (.str "end")))) (bL (.lst (rs.map Row.d)) N most ks sd (wy++[(n:Int)]) n)=some (decide (r.word = "end")):=by
   have e:L2.aX r.ds 0=some (.str r.word):=r.rF
   have Xj:(ae aj (jV 0) (jV 6)) (bL (.lst (rs.map Row.d)) N most ks sd (wy++[(n:Int)]) n)=some (.al,.tup r.ds):=gU
   show(((((ae aj (jV 0) (jV 6)) (bL (.lst (rs.map Row.d)) N most ks sd (wy++[(n:Int)]) n)).bind fun x=>((jC (.int 0)) (bL (.lst (rs.map Row.d)) N most ks sd (wy++[(n:Int)]) n)).bind fun y=>aj x y).bind fun x=>((jC (.str "end")) (bL (.lst (rs.map Row.d)) N most ks sd (wy++[(n:Int)]) n)).bind fun y=>aQ x y)).bind fQ=_
   simp -implicitDefEqProofs only [Xj,jC,Option.bind_some,kf,e,Option.map_some,dQ,bR]
  by_cases he:cw r=true
  ·have:r=.en:=by cases r<;>first|rfl|cases he
   subst this
   have b:jZ (bL (.lst (rs.map Row.d)) N most ks sd wy n)=some (.rt ((bL (.lst (rs.map Row.d)) N most ks sd (wy++[(n:Int)]) n).map fun _=>none) .ut (.tup [.str "end",.lst (sd.map .int),.dk (bB ks),.lst ((wy++[(n:Int)]).map .int)])):=by
    unfold jZ
    rw[aN s1,qh (by rw[dC (by rw[t];rfl)];exact Gz "end" h (by omega))]
   have e:bE rs (f+1) ks sd wy n=⟨true,ks,sd,wy++[(n:Int)]⟩:=by simp only[bE,hr,cw,if_true]
   rw[e]
   refine⟨fun _=>⟨(bL (.lst (rs.map Row.d)) N most ks sd (wy++[(n:Int)]) n).map fun _=>none,?_⟩,(fun z=>by cases z),h,(by show ks.length≤9000;omega)⟩
   rw[dP,c,aB,if_pos rfl,b]
   rfl
  ·have ic:cw r=false:=by simpa using he
   have gk:r≠.en:=by rintro rfl;exact he rfl
   have rP:=rv r uf
   obtain⟨q1,q2,q3⟩:=xh rP h sd
   have hB:=z6 (ks:=(a6 r ks sd).1) (n:=(n:Int)) ic
   obtain⟨b0,b1⟩:=g.a7 hr hB
   have eb:(((cf (a6 r ks sd).1 n r).toNat:Nat):Int)=cf (a6 r ks sd).1 n r:=by omega
   have hw:=FE gk
   have b:jZ (bL (.lst (rs.map Row.d)) N most ks sd wy n)=some (.nx (bL (.lst (rs.map Row.d)) N most (a6 r ks sd).1 (a6 r ks sd).2 (wy++[(n:Int)]) ((cf (a6 r ks sd).1 n r).toNat:Nat))):=by
    unfold jZ
    rw[aN s1,aN (e':=bL (.lst (rs.map Row.d)) N most ks sd (wy++[(n:Int)]) n) (by rw[bj (by rw[t,hw])];rfl),aN (run_io (r:=r.d) r.bx h.bH (Wf rP h (by omega) sd (by omega)) gU)]
    have c3:=(tL (F:=rS) (f1:=jV 0) (f2:=jV 6) (f3:=jV 3) (e:=bL (.lst (rs.map Row.d)) N most (a6 r ks sd).1 (a6 r ks sd).2 (wy++[(n:Int)]) n) (a:=(.al,.lst (rs.map Row.d))) (b:=(.fr,.int n)) (c:=(.bo,.dk (a6 r ks sd).1)) rfl rfl rfl).trans (UZ hr gk q1)
    rw[eb]
    simp -implicitDefEqProofs only [aH,c3,Option.bind_some,zT]
    rfl
   have e:bE rs (f+1) ks sd wy n=bE rs f (a6 r ks sd).1 (a6 r ks sd).2 (wy++[(n:Int)]) (cf (a6 r ks sd).1 n r).toNat:=by simp only[bE,hr,ic,Bool.false_eq_true,if_false]
   rw[e]
   obtain⟨i1,i2,i3⟩:=ih (a6 r ks sd).1 (a6 r ks sd).2 (wy++[(n:Int)]) (cf (a6 r ks sd).1 n r).toNat q1 (by omega) (by omega) (by rw[b9];simp;omega) hm (by omega)
   have w:dP j0 jZ (f+1+1) (bL (.lst (rs.map Row.d)) N most ks sd wy n)=dP j0 jZ (f+1) (bL (.lst (rs.map Row.d)) N most (a6 r ks sd).1 (a6 r ks sd).2 (wy++[(n:Int)]) ((cf (a6 r ks sd).1 n r).toNat:Nat)):=by
    rw[dP,c,aB,if_pos rfl,b]
    rfl
   rw[w]
   exact⟨i1,i2,i3⟩
theorem Au{rs:List Row}(g:Good rs)(rv:∀r∈rs,RV r){ks:List (Key×D)}(h:WK ks)(hk:ks.length≤100)(most:Nat)(hm:most≤3000):lL [.lst (rs.map Row.d),.dk ks,.int most]=some (.ut,bK (bE rs most ks [] [] 0))∧WK (bE rs most ks [] [] 0).ks∧(bE rs most ks [] [] 0).ks.length≤9000:=by
 obtain⟨l1,l2,l3,l4⟩:=P7 g rv (.dk ks) most most ks [] [] 0 h (by omega) (by simp;omega) (by simp) (by omega) g.pos
 refine⟨?_,l3,l4⟩
 unfold lL fn IV
 simp -implicitDefEqProofs only [List.map_cons,List.map_nil,List.length_cons,List.length_nil,Nat.reduceAdd,Nat.reduceSub,List.replicate,List.cons_append,List.nil_append]
 have s1:aH 3 (aD gG (ag (jV 1) ah)) [some (.al,.lst (rs.map Row.d)),some (.al,.dk ks),some (.al,.int most),none,none,none,none]=some (.nx [some (.al,.lst (rs.map Row.d)),some (.al,.dk ks),some (.al,.int most),some (.bo,.dk ks),none,none,none]):=by
  simp -implicitDefEqProofs only [aH,aD,ag,ah,jV,List.getElem?_cons_zero,List.getElem?_cons_succ,Option.bind_some,id_eq,gG,h.bH,if_true,oi,List.set_cons_zero,List.set_cons_succ]
 rw[aN s1,aN (e':=[some (.al,.lst (rs.map Row.d)),some (.al,.dk ks),some (.al,.int most),some (.bo,.dk ks),some (.bo,.lst []),none,none]) rfl,aN (e':=[some (.al,.lst (rs.map Row.d)),some (.al,.dk ks),some (.al,.int most),some (.bo,.dk ks),some (.bo,.lst []),some (.bo,.lst []),none]) rfl,
  aN (e':=bL (.lst (rs.map Row.d)) (.dk ks) most ks [] [] ((0:Nat):Int)) rfl]
 cases hb:(bE rs most ks [] [] 0).b with
 |true =>
  obtain⟨e',w⟩:=l1 hb
  rw[qh (EE w)]
  rfl
 |false =>
  obtain⟨n',w⟩:=l2 hb
  rw[aN (EE w),Gz "spent" l3 l4]
  simp only[Option.bind_some,out,bK,hb,Bool.false_eq_true,if_false]
noncomputable def xR(a b:Int):List (Key×D):=[(.inr "+",.int (a+b)),(.inr "-",.int (a-b)),(.inr "*",.int (a*b)),(.inr "&",.int (Builtin.bitAnd a b)),(.inr "|",.int (Builtin.bitOr a b)),(.inr "^",.int (Builtin.bitXor a b)),(.inr "<",.int (if a<b then 1 else 0)),(.inr "=",.int (if a=b then 1 else 0))]
noncomputable def Bu(k:Nat)(a b:Int):Int:=match k with
 |0=>a+b
 |1=>a-b
 |2=>a*b
 |3=>Builtin.bitAnd a b
 |4=>Builtin.bitOr a b
 |5=>Builtin.bitXor a b
 |6=>if a<b then 1 else 0
 |_=>if a=b then 1 else 0
theorem P8(k:Nat)(hk:k<8)(a b:Int)(ha:0≤a∧a<W)(hb:0≤b∧b<W):Bu k a b%W=kE k a b:=by
 have z:=Eu k a b ha hb hk
 rcases k8 hk with rfl|rfl|rfl|rfl|rfl|rfl|rfl|rfl
 ·rfl
 ·rfl
 ·rfl
 all_goals exact Int.emod_eq_of_lt z.1 z.2
theorem U1(k:Nat)(hk:k<8)(a b:Int):bZ (sQ (xR a b)) (.inr (sg k))=some (.int (Bu k a b)):=by
 rcases k8 hk with rfl|rfl|rfl|rfl|rfl|rfl|rfl|rfl<;>rfl
theorem Ol{s:Str}{a b:Int}(ha:0≤a∧a<W){o:Option (M×D)}:aH 3 (tI [((jC (.str "+")),(ae aW (jV 1) (jV 2))),((jC (.str "-")),(ae fj (jV 1) (jV 2))),((jC (.str "*")),(ae c6 (jV 1) (jV 2))),((jC (.str "&")),(ae ou (jV 1) (jV 2))),((jC (.str "|")),(ae oM (jV 1) (jV 2))),((jC (.str "^")),(ae oy (jV 1) (jV 2))),((jC (.str "<")),(aD c7 (ag (ae dY (jV 1) (jV 2)) ah))),((jC (.str "=")),(aD c7 (ag (ae aQ (jV 1) (jV 2)) ah)))]) [some (.al,.str s),some (.al,.int a),some (.al,.int b),o] =
  some (.nx [some (.al,.str s),some (.al,.int a),some (.al,.int b),some (.bo,.dk (sQ (xR a b)))]):=by
 have hW:W=18446744073709551616:=rfl
 have e1:(ae aW (jV 1) (jV 2)) [some (.al,.str s),some (.al,.int a),some (.al,.int b),o]=some (.fr,.int (a+b)):=by walk_at "ev"
 have e2:(ae fj (jV 1) (jV 2)) [some (.al,.str s),some (.al,.int a),some (.al,.int b),o]=some (.fr,.int (a-b)):=by walk_at "ev"
 have e3:(ae c6 (jV 1) (jV 2)) [some (.al,.str s),some (.al,.int a),some (.al,.int b),o]=some (.fr,.int (a*b)):=by
  walk_at "ev"; rw[wU (by omega)]
 have e4:(ae ou (jV 1) (jV 2)) [some (.al,.str s),some (.al,.int a),some (.al,.int b),o]=some (.fr,.int (Builtin.bitAnd a b)):=by walk_at "ev"
 have e5:(ae oM (jV 1) (jV 2)) [some (.al,.str s),some (.al,.int a),some (.al,.int b),o]=some (.fr,.int (Builtin.bitOr a b)):=by walk_at "ev"
 have e6:(ae oy (jV 1) (jV 2)) [some (.al,.str s),some (.al,.int a),some (.al,.int b),o]=some (.fr,.int (Builtin.bitXor a b)):=by walk_at "ev"
 have e7:(aD c7 (ag (ae dY (jV 1) (jV 2)) ah)) [some (.al,.str s),some (.al,.int a),some (.al,.int b),o]=some (.fr,.int (if a<b then 1 else 0)):=by
  walk_at "ev"
  by_cases h:a<b<;>simp[h]
 have e8:(aD c7 (ag (ae aQ (jV 1) (jV 2)) ah)) [some (.al,.str s),some (.al,.int a),some (.al,.int b),o]=some (.fr,.int (if a=b then 1 else 0)):=by
  walk_at "ev"
  by_cases h:a=b<;>simp[h]
 have k:∀z:Str,keyOf (.str z)=some (.inr z):=fun _=>rfl
 simp only[aH,tI,xK,jC,e1,e2,e3,e4,e5,e6,e7,e8,k,Option.bind_some,fW,if_true]
 rfl
theorem R8{s:Str}(hs:oC (.str s)=true){a b:Int}(ha:0≤a∧a<W)(hb:0≤b∧b<W):vy [.str s,.int a,.int b]=some (.fr,.int (lu s a b)):=by
 obtain⟨k,hk,rfl⟩:=Ja hs
 have er:lu (sg k) a b=kE k a b:=by unfold lu;rw[Gx k hk a b ha hb]
 have hW:W=18446744073709551616:=rfl
 unfold vy fn DU
 simp -implicitDefEqProofs only [List.map_cons,List.map_nil,List.length_cons,List.length_nil,Nat.reduceAdd,Nat.reduceSub,List.replicate,List.cons_append,List.nil_append]
 rw[aN (Ol ha)]
 have g:(iA (jV 3) (jV 0)) [some (.al,.str (sg k)),some (.al,.int a),some (.al,.int b),some (.bo,.dk (sQ (xR a b)))]=some (.fr,.int (Bu k a b)):=by
  have kk:keyOf (.str (sg k))=some (.inr (sg k)):=rfl
  simp only[iA,jV,List.getElem?_cons_zero,List.getElem?_cons_succ,Option.bind_some,id_eq,kC,kk,U1 k hk a b]
  rfl
 have e:(ae aY (iA (jV 3) (jV 0)) (jC (.int 18446744073709551616))) [some (.al,.str (sg k)),some (.al,.int a),some (.al,.int b),some (.bo,.dk (sQ (xR a b)))]=some (.fr,.int (kE k a b)):=by
  rw[←P8 k hk a b ha hb]
  simp only[ae,g,jC,Option.bind_some]
  rw[fE (by omega)]
 rw[er]
 simp only[aP,e,Option.bind_some,out]
noncomputable def pv(ks:List (Key×D)):D→Int
 |.int i=>i
 |.str x=>wk ks x
 |_=>0
noncomputable def bC(R:D)(n:Int)(ks:List (Key×D))(sd:List Int)(r:Row)(acc:List Int)(o:Option (M×D)):Ev:=[some (.al,R),some (.al,.int n),some (.bi,.dk ks),some (.bi,.lst (sd.map .int)),some (.al,r.d),some (.bo,.lst (acc.map .int)),o]
theorem EX(R:D)(n:Int){ks:List (Key×D)}(h:WK ks)(sd:List Int)(r:Row):∀(l:List D) (acc:List Int) (o:Option (M×D)),(∀d∈l,(∃i,d=.int i)∨∃x,d=.str x)→acc.length+l.length≤100 →
  ∃o',forL (gN 6) rW .al l (bC R n ks sd r acc o)=some (.nx (bC R n ks sd r (acc++l.map (pv ks)) o'))
 |[],acc,o,_,_=>⟨o,by simp[forL]⟩
 |d::l,acc,o,hd,hl=>by
  have kR:acc.length+l.length+1≤100:=by simpa[Nat.add_assoc]using hl
  have hs:(acc.map D.int).length<sizeLine:=by rw[aU];exact dJ (by omega:acc.length≤100) (by decide)
  have z:∀i:Int,acc.map D.int++[.int i]=(acc++[i]).map .int:=fun i=>by simp
  have b:rW (bC R n ks sd r acc (some (.al,d)))=some (.nx (bC R n ks sd r (acc++[pv ks d]) (some (.al,d)))):=by
   unfold rW bC
   rcases hd d cL with⟨i,rfl⟩|⟨x,rfl⟩
   ·rw[bj (by simp -implicitDefEqProofs only [jB,aD,ag,ah,jV,jC,List.getElem?_cons_zero,List.getElem?_cons_succ,Option.bind_some,id_eq,D5,bR])]
    simp -implicitDefEqProofs only [bN,jV,List.getElem?_cons_zero,List.getElem?_cons_succ,Option.bind_some,id_eq,bM,fW,if_true,gO,own,hs,List.set_cons_zero,List.set_cons_succ,z,pv]
   ·rw[dC (by simp -implicitDefEqProofs only [jB,aD,ag,ah,jV,jC,List.getElem?_cons_zero,List.getElem?_cons_succ,Option.bind_some,id_eq,D4,bR])]
    have k:keyOf (.str x)=some (.inr x):=rfl
    have g:(j5 (jV 2) (jV 6) (jC (.int 0))) [some (.al,R),some (.al,.int n),some (.bi,.dk ks),some (.bi,.lst (sd.map .int)),some (.al,r.d),some (.bo,.lst (acc.map .int)),some (.al,.str x)]=some (.fr,.int (wk ks x)):=by
     simp only[j5,jV,jC,List.getElem?_cons_zero,List.getElem?_cons_succ,Option.bind_some,id_eq,kC,k]
     rcases h.val x with⟨e,w⟩|⟨e,_⟩
     ·rw[e,w];simp[fW]
     ·rw[e];rfl
    simp -implicitDefEqProofs only [bN,g,Option.bind_some,bM,if_true,gO,own,List.getElem?_cons_zero,List.getElem?_cons_succ,hs,List.set_cons_zero,List.set_cons_succ,z,pv]
  have g:gN 6 (.al,d) (bC R n ks sd r acc o)=some (bC R n ks sd r acc (some (.al,d))):=rfl
  obtain⟨o',ih⟩:=EX R n h sd r l (acc++[pv ks d]) (some (.al,d)) (fun x hx=>hd x (cT _ hx)) (by simp;omega)
  refine⟨o',?_⟩
  rw[forL,g,aB,b,aB]
  show forL (gN 6) rW .al l (bC R n ks sd r (acc++[pv ks d]) (some (.al,d)))=_
  rw[ih,bF,List.append_assoc]
  rfl
theorem Om(a b c d:D):ik [2,3] [a,b,c,d]=[some (.al,a),some (.al,b),some (.bi,c),some (.bi,d)]:=rfl
section
variable {R:D}{n:Int}{ks:List (Key×D)}{sd:List Int}{r:Row}{acc:List Int}{o:Option (M×D)}
theorem fw(w:Str):(jB (ae aQ (ae aj (jV 4) (jC (.int 0))) (jC (.str w)))) (bC R n ks sd r acc o)=some (decide (r.word=w)):=by
 have e:L2.aX r.ds 0=some (.str r.word):=r.rF
 unfold bC
 simp -implicitDefEqProofs only [jB,ae,jV,jC,List.getElem?_cons_zero,List.getElem?_cons_succ,Option.bind_some,id_eq,Row.d,kf,e,Option.map_some,dQ,bR]
theorem AK{j:Nat}{i:Int}{d:D}(hi:i=(j:Int))(hj:r.ds[j]?=some d):(ae aj (jV 4) (jC (.int i))) (bC R n ks sd r acc o)=some (.al,d):=by
 have hl:j<r.ds.length:=(bt.mp hj).1
 subst hi
 have e:L2.aX r.ds (j:Int)=some d:=by rw[gY hl,←hj,bO hl]
 unfold bC
 simp -implicitDefEqProofs only [ae,jV,jC,List.getElem?_cons_zero,List.getElem?_cons_succ,Option.bind_some,id_eq,Row.d,kf,e,Option.map_some,dq]
theorem sW{j:Nat}{i v:Int}(hi:i=(j:Int))(hj:acc[j]?=some v):(ae aj (jV 5) (jC (.int i))) (bC R n ks sd r acc o)=some (.fr,.int v):=by
 have hl:j<acc.length:=(bt.mp hj).1
 subst hi
 have e:L2.aX (acc.map D.int) (j:Int)=some (.int v):=by
  rw[gY (by rw[aU];exact hl),lX]
  rw[bO hl]at hj
  cases hj;rfl
 unfold bC
 simp -implicitDefEqProofs only [ae,jV,jC,List.getElem?_cons_zero,List.getElem?_cons_succ,Option.bind_some,id_eq,iy,e,Option.map_some,wm]
theorem Jc(hl:ks.length≤9000){fk fv:Ev→Option (M×D)}{x:Str}{i:Int}(hk:fk (bC R n ks sd r acc o)=some (.al,.str x))(hv:fv (bC R n ks sd r acc o)=some (.fr,.int i)) :
  fH 2 fk fv (bC R n ks sd r acc o)=some (.nx (bC R n (putD ks (.inr x) (.int i)) sd r acc o)):=by
 have hs:ks.length<sizeLine:=dJ hl (by decide)
 unfold bC at hk hv ⊢
 simp only[fH,hk,hv,Option.bind_some,keyOf,bM,if_true,jw,own,List.getElem?_cons_zero,List.getElem?_cons_succ,hs,List.set_cons_zero,List.set_cons_succ]
theorem xi{m:Int}(h:WK ks):kg [2,3] (.rt (bC R n ks sd r acc o) .fr (.int m))=some (.fr,.int m,[.dk ks,.lst (sd.map .int)]):=by
 simp only[kg,out,envOf,bC,J.collect,List.getElem?_cons_zero,List.getElem?_cons_succ,dZ,h.bH,gW,if_true,Option.bind_some]
theorem wD:aP (ae aW (jV 1) (jC (.int 1))) (bC R n ks sd r acc o)=some (.rt (bC R n ks sd r acc o) .fr (.int (n+1))):=by
 unfold bC
 simp -implicitDefEqProofs only [aP,ae,jV,jC,List.getElem?_cons_zero,List.getElem?_cons_succ,Option.bind_some,id_eq,Ad]
end
theorem tM(ks:List (Key×D))(k:Ko):pv ks (kD k)=cn ks k:=by cases k<;>rfl
theorem Oo(r:Row):∀d∈r.ds.drop 1,(∃i,d=.int i)∨∃x,d=.str x:=by
 have k:∀a:Ko,(∃i,kD a=.int i)∨∃x,kD a=.str x:=fun a=>by cases a<;>first|exact .inl ⟨_,rfl⟩|exact .inr ⟨_,rfl⟩
 intro d hd
 cases r with
 |rk x s a b =>
  have hd:d=.str x∨d=.str s∨d=kD a∨d=kD b:=by simpa[Row.ds]using hd
  rcases hd with rfl|rfl|rfl|rfl
  ·exact .inr ⟨_,rfl⟩
  ·exact .inr ⟨_,rfl⟩
  ·exact k a
  ·exact k b
 |cp x a =>
  have hd:d=.str x∨d=kD a:=by simpa[Row.ds]using hd
  rcases hd with rfl|rfl
  ·exact .inr ⟨_,rfl⟩
  ·exact k a
 |sy a =>
  have hd:d=kD a:=by simpa[Row.ds]using hd
  subst hd;exact k a
 |go t =>
  have hd:d=.int t:=by simpa[Row.ds]using hd
  subst hd;exact .inl ⟨_,rfl⟩
 |pt a t =>
  have hd:d=kD a∨d=.int t:=by simpa[Row.ds]using hd
  rcases hd with rfl|rfl
  ·exact k a
  ·exact .inl ⟨_,rfl⟩
 |en=>simp[Row.ds]at hd
theorem Oq(r:Row):r.ds.length≤5:=by cases r<;>simp[Row.ds]
theorem Xk(R:D)(n:Int)(ks:List (Key×D))(sd:List Int)(r:Row)(acc:List Int)(o:Option (M×D)):yB (gj eW (jV 4) (fF (jC (.int 1))) gu) (bC R n ks sd r acc o)=some (.al,r.ds.drop 1):=by
 cases r<;>rfl
theorem R9{rs:List Row}{n:Nat}{r:Row}(hn:rs[n]?=some r)(hr:r≠.en)(rv:RV r){ks:List (Key×D)}(h:WK ks)(hl:ks.length≤9000)(sd:List Int)(hs:sd.length≤9000) :
  rY [.lst (rs.map Row.d),.int n,.dk ks,.lst (sd.map .int)]=some (.fr,.int (cf (a6 r ks sd).1 n r),[.dk (a6 r ks sd).1,.lst ((a6 r ks sd).2.map .int)]):=by
 unfold rY jt Et
 rw[Om]
 simp -implicitDefEqProofs only [List.length_cons,List.length_nil,Nat.reduceAdd,Nat.reduceSub,List.replicate,List.cons_append,List.nil_append]
 have aT:n<rs.length:=(bt.mp hn).1
 have ha:L2.aX (rs.map Row.d) (n:Int)=some r.d:=by
  rw[gY (by rw[aU];exact aT),lX]
  rw[bO aT]at hn
  cases hn;rfl
 have s1:aH 4 (ae aj (jV 0) (jV 1)) [some (.al,.lst (rs.map Row.d)),some (.al,.int n),some (.bi,.dk ks),some (.bi,.lst (sd.map .int)),none,none,none]=some (.nx [some (.al,.lst (rs.map Row.d)),some (.al,.int n),some (.bi,.dk ks),some (.bi,.lst (sd.map .int)),some (.al,r.d),none,none]):=by
  simp -implicitDefEqProofs only [aH,ae,jV,List.getElem?_cons_zero,List.getElem?_cons_succ,Option.bind_some,id_eq,iy,ha,Option.map_some,dq,vS,List.set_cons_zero,List.set_cons_succ]
 rw[aN s1,aN (e':=bC (.lst (rs.map Row.d)) n ks sd r [] none) rfl]
 obtain⟨o,lp⟩:=EX (.lst (rs.map Row.d)) n h sd r (r.ds.drop 1) [] none (Oo r) (by have:=Oq r;simp;omega)
 rw[List.nil_append]at lp
 rw[aN (e':=bC (.lst (rs.map Row.d)) n ks sd r ((r.ds.drop 1).map (pv ks)) o) (by unfold fq;rw[Xk,aB];exact lp)]
 have q:=xh rv h sd
 have Zf:∀{e:Ev},(cV eQ (jC (.int 1))) e=some (.fr,.int (-1)):=rfl
 cases r with
 |rk x s a b =>
  have e3:=sW (R:=.lst (rs.map Row.d)) (n:=n) (ks:=ks) (sd:=sd) (r:=.rk x s a b) (o:=o) (acc:=((Row.rk x s a b).ds.drop 1).map (pv ks)) (j:=2) (i:=2) (v:=cn ks a) rfl (by rw[←tM];rfl)
  have e4:=sW (R:=.lst (rs.map Row.d)) (n:=n) (ks:=ks) (sd:=sd) (r:=.rk x s a b) (o:=o) (acc:=((Row.rk x s a b).ds.drop 1).map (pv ks)) (j:=3) (i:=3) (v:=cn ks b) rfl (by rw[←tM];rfl)
  have e2:=AK (R:=.lst (rs.map Row.d)) (n:=n) (ks:=ks) (sd:=sd) (r:=.rk x s a b) (o:=o) (acc:=((Row.rk x s a b).ds.drop 1).map (pv ks)) (j:=2) (i:=2) (d:=.str s) rfl rfl
  have e1:=AK (R:=.lst (rs.map Row.d)) (n:=n) (ks:=ks) (sd:=sd) (r:=.rk x s a b) (o:=o) (acc:=((Row.rk x s a b).ds.drop 1).map (pv ks)) (j:=1) (i:=1) (d:=.str x) rfl rfl
  have ev:=R8 rv.2.1.1 (oa h rv.2.2.1) (oa h rv.2.2.2)
  rw[aN (by rw[dC (by rw[fw];rfl)];exact Jc hl e1 ((tL e2 e3 e4).trans ev)),wD,aB]
  exact xi q.1
 |cp x a =>
  have e3:=sW (R:=.lst (rs.map Row.d)) (n:=n) (ks:=ks) (sd:=sd) (r:=.cp x a) (o:=o) (acc:=((Row.cp x a).ds.drop 1).map (pv ks)) (j:=1) (i:=1) (v:=cn ks a) rfl (by rw[←tM];rfl)
  have e1:=AK (R:=.lst (rs.map Row.d)) (n:=n) (ks:=ks) (sd:=sd) (r:=.cp x a) (o:=o) (acc:=((Row.cp x a).ds.drop 1).map (pv ks)) (j:=1) (i:=1) (d:=.str x) rfl rfl
  rw[aN (by rw[bj (by rw[fw];rfl),dC (by rw[fw];rfl)];exact Jc hl e1 e3),wD,aB]
  exact xi q.1
 |sy a =>
  have e3:=sW (R:=.lst (rs.map Row.d)) (n:=n) (ks:=ks) (sd:=sd) (r:=.sy a) (o:=o) (acc:=((Row.sy a).ds.drop 1).map (pv ks)) (j:=0) (i:=0) (v:=cn ks a) rfl (by rw[←tM];rfl)
  have hsz:(sd.map D.int).length<sizeLine:=by rw[aU];exact dJ hs (by decide)
  have z:sd.map D.int++[.int (cn ks a)]=(sd++[cn ks a]).map .int:=by simp
  have ap:bN 3 (ae aj (jV 5) (jC (.int 0))) (bC (.lst (rs.map Row.d)) n ks sd (.sy a) (((Row.sy a).ds.drop 1).map (pv ks)) o)=some (.nx (bC (.lst (rs.map Row.d)) n ks (sd++[cn ks a]) (.sy a) (((Row.sy a).ds.drop 1).map (pv ks)) o)):=by
   unfold bC at e3 ⊢
   simp -implicitDefEqProofs only [bN,e3,Option.bind_some,bM,if_true,gO,own,List.getElem?_cons_zero,List.getElem?_cons_succ,hsz,List.set_cons_zero,List.set_cons_succ,z]
  rw[aN (by rw[bj (by rw[fw];rfl),bj (by rw[fw];rfl),dC (by rw[fw];rfl)];exact ap),wD,aB]
  exact xi q.1
 |go t =>
  have c:(cB (jB (ae aQ (ae aj (jV 4) (jC (.int 0))) (jC (.str "go")))) (jB (ae bV (ae aj (jV 5) (jC (.int 0))) (jC (.int 0))))) (bC (.lst (rs.map Row.d)) n ks sd (.go t) (((Row.go t).ds.drop 1).map (pv ks)) o)=some true:=by
   unfold cB
   rw[fw];rfl
  have rt:aP (ae aj (jV 4) (cV eQ (jC (.int 1)))) (bC (.lst (rs.map Row.d)) n ks sd (.go t) (((Row.go t).ds.drop 1).map (pv ks)) o)=some (.rt (bC (.lst (rs.map Row.d)) n ks sd (.go t) (((Row.go t).ds.drop 1).map (pv ks)) o) .al (.int t)):=rfl
  rw[qh (by rw[bj (by rw[fw];rfl),bj (by rw[fw];rfl),bj (by rw[fw];rfl),dC c];exact rt),aB]
  simp only[kg,out,envOf,bC,J.collect,List.getElem?_cons_zero,List.getElem?_cons_succ,dZ,h.bH,gW,if_true,Option.bind_some,fW,a6,cf]
 |pt a t =>
  have e3:=sW (R:=.lst (rs.map Row.d)) (n:=n) (ks:=ks) (sd:=sd) (r:=.pt a t) (o:=o) (acc:=((Row.pt a t).ds.drop 1).map (pv ks)) (j:=0) (i:=0) (v:=cn ks a) rfl (by rw[←tM];rfl)
  have c:(cB (jB (ae aQ (ae aj (jV 4) (jC (.int 0))) (jC (.str "go")))) (jB (ae bV (ae aj (jV 5) (jC (.int 0))) (jC (.int 0))))) (bC (.lst (rs.map Row.d)) n ks sd (.pt a t) (((Row.pt a t).ds.drop 1).map (pv ks)) o)=some (!decide (cn ks a=0)):=by
   have f:(jB (ae bV (ae aj (jV 5) (jC (.int 0))) (jC (.int 0)))) (bC (.lst (rs.map Row.d)) n ks sd (.pt a t) (((Row.pt a t).ds.drop 1).map (pv ks)) o)=some (!decide (cn ks a=0)):=by
    show(((ae aj (jV 5) (jC (.int 0))) (bC (.lst (rs.map Row.d)) n ks sd (.pt a t) (((Row.pt a t).ds.drop 1).map (pv ks)) o)).bind fun x=>((jC (.int 0)) (bC (.lst (rs.map Row.d)) n ks sd (.pt a t) (((Row.pt a t).ds.drop 1).map (pv ks)) o)).bind fun y=>bV x y).bind fQ=_
    simp -implicitDefEqProofs only [e3,jC,Option.bind_some,lI,bR]
   unfold cB
   rw[fw,aB,show decide ((Row.pt a t).word=("go" : Str))=false from rfl]
   exact f
  have rt:aP (ae aj (jV 4) (cV eQ (jC (.int 1)))) (bC (.lst (rs.map Row.d)) n ks sd (.pt a t) (((Row.pt a t).ds.drop 1).map (pv ks)) o)=some (.rt (bC (.lst (rs.map Row.d)) n ks sd (.pt a t) (((Row.pt a t).ds.drop 1).map (pv ks)) o) .al (.int t)):=rfl
  by_cases hz:cn ks a=0
  ·rw[aN (e':=bC (.lst (rs.map Row.d)) n ks sd (.pt a t) (((Row.pt a t).ds.drop 1).map (pv ks)) o) (by rw[bj (by rw[fw];rfl),bj (by rw[fw];rfl),bj (by rw[fw];rfl),bj (by rw[c,hz];rfl)];rfl),wD,aB]
   have:cf (a6 (.pt a t) ks sd).1 (n:Int) (.pt a t)=(n:Int)+1:=by simp only[a6,cf,hz,if_true]
   rw[this]
   exact xi h
  ·rw[qh (by rw[bj (by rw[fw];rfl),bj (by rw[fw];rfl),bj (by rw[fw];rfl),dC (by rw[c,fJ hz];rfl)];exact rt),aB]
   simp only[kg,out,envOf,bC,J.collect,List.getElem?_cons_zero,List.getElem?_cons_succ,dZ,h.bH,gW,if_true,Option.bind_some,fW,a6,cf,hz,if_false]
 |en=>exact absurd rfl hr
noncomputable def rowOf(rs:List Row)(w:Int):Row:=rs.getD w.toNat .en
theorem v7{rs:List Row}{n:Nat}{r:Row}(h:rs[n]?=some r):rowOf rs (n:Int)=r:=by
 unfold rowOf
 rw[Int.toNat_natCast,qV,h];rfl
def ly(rs:List Row)(w:Int):Prop:=0≤w∧w<rs.length∧cw (rowOf rs w)=false
theorem GA{rs:List Row}{f:Nat}{ks:List (Key×D)}{sd wy:List Int}{n:Nat}{r:Row}(h:rs[n]?=some r)(he:cw r=true):bE rs (f+1) ks sd wy n=⟨true,ks,sd,wy++[(n:Int)]⟩:=by simp only[bE,h,he,if_true]
theorem GB{rs:List Row}{f:Nat}{ks:List (Key×D)}{sd wy:List Int}{n:Nat}{r:Row}(h:rs[n]?=some r)(he:cw r=false):bE rs (f+1) ks sd wy n=bE rs f (a6 r ks sd).1 (a6 r ks sd).2 (wy++[(n:Int)]) (cf (a6 r ks sd).1 n r).toNat:=by simp only[bE,h,he,Bool.false_eq_true,if_false]
theorem v8{rs:List Row}(g:Good rs):∀(f:Nat) (ks:List (Key×D)) (sd wy:List Int) (n:Nat),n<rs.length→(∀w∈wy,ly rs w) →
  ((bE rs f ks sd wy n).b=true→∃(l:List Int) (m:Nat),(bE rs f ks sd wy n).wy=l++[(m:Int)]∧m<rs.length∧cw (rowOf rs m)=true)∧((bE rs f ks sd wy n).b=false→(bE rs f ks sd wy n).wy.length=wy.length+f∧∀w∈(bE rs f ks sd wy n).wy,ly rs w)∧(bE rs f ks sd wy n).wy.length≤wy.length+f∧wy <+: (bE rs f ks sd wy n).wy∧(bE rs f ks sd wy n).sd.length≤sd.length+f
 |0,ks,sd,wy,n,hn,hw=>⟨fun z=>by simp[bE]at z,fun _=>⟨rfl,hw⟩,aR _,List.prefix_refl _,aR _⟩
 |f+1,ks,sd,wy,n,hn,hw=>by
  have hr:rs[n]?=some rs[n]:=bO hn
  generalize rs[n]=r at hr
  by_cases he:cw r=true
  ·rw[GA hr he]
   refine⟨fun _=>⟨wy,n,rfl,hn,by rw[v7 hr];exact he⟩,(fun z=>by cases z),(by simp),List.prefix_append _ _,(by simp)⟩
  ·have ic:cw r=false:=by simpa using he
   have hB:=z6 (ks:=(a6 r ks sd).1) (n:=(n:Int)) ic
   obtain⟨b0,b1⟩:=g.a7 hr hB
   rw[GB hr ic]
   have zk:∀w∈wy++[(n:Int)],ly rs w:=fun w m=>by
    rcases fX.mp m with m|m
    ·exact hw w m
    ·have:w=(n:Int):=by simpa using m
     subst this
     exact⟨by omega,by omega,by rw[v7 hr];exact ic⟩
   obtain⟨i1,i2,i3,i4,i5⟩:=v8 g f (a6 r ks sd).1 (a6 r ks sd).2 (wy++[(n:Int)]) (cf (a6 r ks sd).1 n r).toNat (by omega) zk
   have ZH:(a6 r ks sd).2.length≤sd.length+1:=by cases r<;>simp[a6]
   refine⟨i1,fun z=>⟨by rw[(i2 z).1];simp;omega,(i2 z).2⟩,bQ i3 (by simp;omega),(List.prefix_append _ _).trans i4,by omega⟩
noncomputable def bp(R H:D)(Q:RS)(most:Int)(ks:List (Key×D))(sd:List Int)(n:Int)(o7 o8 o9 aV bh:Option (M×D)):Ev:=[some (.al,R),some (.al,H),some (.al,bK Q),some (.al,.int most),some (.bo,.dk ks),some (.bo,.lst (sd.map .int)),some (.fr,.int n),o7,o8,o9,aV,bh]
section
variable {rs:List Row}{H:D}{Q:RS}{most:Int}{ks:List (Key×D)}{sd:List Int}{n:Int}{o7 o8 o9 aV bh:Option (M×D)}
theorem zI:(ae aj (jV 2) (jC (.int 3))) (bp (.lst (rs.map Row.d)) H Q most ks sd n o7 o8 o9 aV bh)=some (.al,.lst (Q.wy.map .int)):=rfl
theorem AO{f:Ev→Option (M×D)}{m:M}{w:Int}(h0:0≤w)(h1:w<rs.length)(hf:f (bp (.lst (rs.map Row.d)) H Q most ks sd n o7 o8 o9 aV bh)=some (m,.int w)):(ae aj (jV 0) f) (bp (.lst (rs.map Row.d)) H Q most ks sd n o7 o8 o9 aV bh)=some (.al,(rowOf rs w).d):=by
 have e0:jV 0 (bp (.lst (rs.map Row.d)) H Q most ks sd n o7 o8 o9 aV bh)=some (.al,.lst (rs.map Row.d)):=rfl
 have a:L2.aX (rs.map Row.d) w=some (rowOf rs w).d:=by
  rw[PF h0 h1]
  unfold rowOf
  rw[qV,bO (by omega)];rfl
 simp -implicitDefEqProofs only [ae,e0,hf,Option.bind_some,iy,a,Option.map_some,dq]
theorem Av{f:Ev→Option (M×D)}{r:Row}{e:Ev}(hf:f e=some (.al,r.d)):(ae aj f (jC (.int 0))) e=some (.al,.str r.word):=by
 have a:L2.aX r.ds 0=some (.str r.word):=r.rF
 simp -implicitDefEqProofs only [ae,hf,jC,Option.bind_some,Row.d,kf,a,Option.map_some,dq]
end
theorem zJ{r:Row}(h:cw r=false):decide (r.word = "end")=false:=FE (by rintro rfl;cases h)
theorem GC{r:Row}(h:cw r=true):decide (r.word = "end")=true:=by
 cases r<;>first|rfl|cases h
section
variable {rs:List Row}{H:D}{Q:RS}{most:Int}{ks:List (Key×D)}{sd:List Int}{o9 aV bh:Option (M×D)}
theorem Ot{k n:Nat}(hk:∀j:Nat,k=j+1→∃w,Q.wy[j]?=some w∧ly rs w) :
  (cB (jB (ae bV (jV 8) (jV 6))) (bY (jB (ae dN (jV 7) (jC (.int 0)))) (jB (ae aQ (ae aj (ae aj (jV 0) (ae aj (ae aj (jV 2) (jC (.int 3))) (ae fj (jV 7) (jC (.int 1))))) (jC (.int 0))) (jC (.str "end")))))) (bp (.lst (rs.map Row.d)) H Q most ks sd n (some (.al,.int k)) (some (.al,.int n)) o9 aV bh)=some false:=by
 have e1:(jB (ae bV (jV 8) (jV 6))) (bp (.lst (rs.map Row.d)) H Q most ks sd n (some (.al,.int k)) (some (.al,.int n)) o9 aV bh)=some false:=by
  unfold bp
  simp -implicitDefEqProofs only [jB,ae,jV,List.getElem?_cons_zero,List.getElem?_cons_succ,Option.bind_some,id_eq,lI,bR,decide_true,Bool.not_true]
 have e2:(jB (ae dN (jV 7) (jC (.int 0)))) (bp (.lst (rs.map Row.d)) H Q most ks sd n (some (.al,.int k)) (some (.al,.int n)) o9 aV bh)=some (decide ((0:Int)<k)):=by
  unfold bp
  simp -implicitDefEqProofs only [jB,ae,jV,jC,List.getElem?_cons_zero,List.getElem?_cons_succ,Option.bind_some,id_eq,tF,bR]
 unfold cB
 rw[e1,aB,if_neg aZ]
 unfold bY
 rw[e2,aB]
 cases k with
 |zero=>rfl
 |succ j =>
  rw[fL (by omega:(0:Int)<((j+1:Nat):Int)),if_pos rfl]
  obtain⟨w,hw,h0,h1,he⟩:=hk j rfl
  have hj:j<Q.wy.length:=(bt.mp hw).1
  have a:L2.aX (Q.wy.map D.int) (((j+1:Nat):Int)-1)=some (.int w):=by
   rw[show(((j+1:Nat):Int)-1)=(j:Int) by omega,gY (by rw[aU];exact hj),lX]
   rw[bO hj]at hw
   cases hw;rfl
  have e3:(ae aj (ae aj (jV 2) (jC (.int 3))) (ae fj (jV 7) (jC (.int 1)))) (bp (.lst (rs.map Row.d)) H Q most ks sd n (some (.al,.int ((j+1:Nat):Int))) (some (.al,.int n)) o9 aV bh)=some (.al,.int w):=by
   have s:(ae fj (jV 7) (jC (.int 1))) (bp (.lst (rs.map Row.d)) H Q most ks sd n (some (.al,.int ((j+1:Nat):Int))) (some (.al,.int n)) o9 aV bh)=some (.fr,.int (((j+1:Nat):Int)-1)):=by
    unfold bp
    simp -implicitDefEqProofs only [ae,jV,jC,List.getElem?_cons_zero,List.getElem?_cons_succ,Option.bind_some,id_eq,Ae]
   have:=zI (rs:=rs) (H:=H) (Q:=Q) (most:=most) (ks:=ks) (sd:=sd) (n:=n) (o7:=some (.al,.int ((j+1:Nat):Int))) (o8:=some (.al,.int n)) (o9:=o9) (aV:=aV) (bh:=bh)
   rw[ae,this,aB,s,aB,iy,a];rfl
  have e4:=Av (AO h0 h1 e3)
  rw[jB,ae,e4,aB]
  show((aQ (.al,.str (rowOf rs w).word) (.fr,.str "end")).bind fQ)=some false
  rw[dQ,aB,zJ he];rfl
theorem Sb{n:Nat}{r:Row}{o7 o8:Option (M×D)}(hn:rs[n]?=some r)(hr:r≠.en)(rv:RV r)(h:WK ks)(hl:ks.length≤9000)(hs:sd.length≤9000) :
  sN 6 [2,3] [4,5] [(0,0),(1,6),(2,4),(3,5)] rY (ag (jV 0) (ag (jV 6) (ag (jV 4) (ag (jV 5) ah)))) (bp (.lst (rs.map Row.d)) H Q most ks sd n o7 o8 o9 aV bh) =
  some (.nx (bp (.lst (rs.map Row.d)) H Q most (a6 r ks sd).1 (a6 r ks sd).2 (cf (a6 r ks sd).1 n r) o7 o8 o9 aV bh)):=by
 have hB:k9 [2,3] [4,5] [(0,0),(1,6),(2,4),(3,5)] [(.al,.lst (rs.map Row.d)),(.fr,.int n),(.bo,.dk ks),(.bo,.lst (sd.map .int))]=true:=by
  simp[k9,List.range_succ,own,dZ,gi,h.bH,gW]
 have e0:jV 0 (bp (.lst (rs.map Row.d)) H Q most ks sd n o7 o8 o9 aV bh)=some (.al,.lst (rs.map Row.d)):=rfl
 have e6:jV 6 (bp (.lst (rs.map Row.d)) H Q most ks sd n o7 o8 o9 aV bh)=some (.fr,.int n):=rfl
 have e4:jV 4 (bp (.lst (rs.map Row.d)) H Q most ks sd n o7 o8 o9 aV bh)=some (.bo,.dk ks):=rfl
 have e5:jV 5 (bp (.lst (rs.map Row.d)) H Q most ks sd n o7 o8 o9 aV bh)=some (.bo,.lst (sd.map .int)):=rfl
 simp -implicitDefEqProofs only [sN,pZ,ag,ah,e0,e6,e4,e5,Option.bind_some,hB,if_true,List.map_cons,List.map_nil,R9 hn hr rv h hl sd hs,iz]
 rfl
theorem EY{k n:Nat}{r:Row}(hn:rs[n]?=some r)(rv:RV r)(h:WK ks)(hl:ks.length≤9000)(hs:sd.length≤9000)(hk:∀j:Nat,k=j+1→∃w,Q.wy[j]?=some w∧ly rs w) :
  vw (bp (.lst (rs.map Row.d)) H Q most ks sd n (some (.al,.int k)) (some (.al,.int n)) o9 aV bh) =
  some (.nx (if cw r=true then bp (.lst (rs.map Row.d)) H Q most ks sd n (some (.al,.int k)) (some (.al,.int n)) o9 aV bh else bp (.lst (rs.map Row.d)) H Q most (a6 r ks sd).1 (a6 r ks sd).2 (cf (a6 r ks sd).1 n r) (some (.al,.int k)) (some (.al,.int n)) o9 aV bh)):=by
 have aT:n<rs.length:=(bt.mp hn).1
 unfold vw
 rw[aN (e':=bp (.lst (rs.map Row.d)) H Q most ks sd n (some (.al,.int k)) (some (.al,.int n)) o9 aV bh) (by rw[bj (Ot hk)];rfl)]
 have e6:jV 6 (bp (.lst (rs.map Row.d)) H Q most ks sd n (some (.al,.int k)) (some (.al,.int n)) o9 aV bh)=some (.fr,.int n):=rfl
 have e4:=Av (AO (by omega) (by omega) e6)
 rw[v7 hn]at e4
 have c:(jB (ae bV (ae aj (ae aj (jV 0) (jV 6)) (jC (.int 0))) (jC (.str "end")))) (bp (.lst (rs.map Row.d)) H Q most ks sd n (some (.al,.int k)) (some (.al,.int n)) o9 aV bh)=some (!decide (r.word = "end")):=by
  rw[jB,ae,e4,aB]
  show((bV (.al,.str r.word) (.fr,.str "end")).bind fQ)=_
  rw[wR];rfl
 by_cases he:cw r=true
 ·rw[if_pos he,bj (by rw[c,GC he];rfl)];rfl
 ·have ic:cw r=false:=by simpa using he
  rw[if_neg he,dC (by rw[c,zJ ic];rfl)]
  exact Sb hn (by rintro rfl;exact he rfl) rv h hl hs
end
theorem EZ{wy:List Int}{i:Nat}{w:Int}(h:wy[i]?=some w):(cH (wy.map D.int)).drop i=.tup [.int i,.int w]::(cH (wy.map D.int)).drop (i+1):=by
 obtain⟨hl,e⟩:=bt.mp h
 rw[lV (by simp[cH];exact hl)]
 congr 1
 simp[cH,e]
theorem E1{rs:List Row}(g:Good rs)(rv:∀r∈rs,RV r)(H:D)(Q:RS)(most:Int)(o9 aV bh:Option (M×D)):∀(f:Nat) (ks:List (Key×D)) (sd wy:List Int) (n:Nat) (o7 o8:Option (M×D)),WK ks→ks.length+f≤9000→sd.length+f≤9000→n<rs.length→(∀w∈wy,ly rs w)→(bE rs f ks sd wy n).wy=Q.wy →
  ∃n' DK DL,forL (gT 2 (b8 (gN 7) (b8 (gN 8) fG))) vw .al ((cH (Q.wy.map .int)).drop wy.length) (bp (.lst (rs.map Row.d)) H Q most ks sd n o7 o8 o9 aV bh)=some (.nx (bp (.lst (rs.map Row.d)) H Q most (bE rs f ks sd wy n).ks (bE rs f ks sd wy n).sd n' DK DL o9 aV bh))
 |0,ks,sd,wy,n,o7,o8,h,hk,hs,hn,hw,e=>by
  have e:wy=Q.wy:=e
  refine⟨n,o7,o8,?_⟩
  rw[←e,List.drop_eq_nil_of_le (by simp[cH])]
  rfl
 |f+1,ks,sd,wy,n,o7,o8,h,hk,hs,hn,hw,e=>by
  have hr:rs[n]?=some rs[n]:=bO hn
  have uf:rs[n]∈rs:=qW hn
  generalize rs[n]=r at hr uf
  have rP:=rv r uf
  have at_:∀{rest:List Int},Q.wy=(wy++[(n:Int)])++rest→Q.wy[wy.length]?=some (n:Int)∧∀j:Nat,wy.length=j+1→∃w,Q.wy[j]?=some w∧ly rs w:=fun {rest} ez=>by
   refine⟨by rw[ez,List.append_assoc,List.getElem?_append_right (aR _)];simp,fun j hj=>?_⟩
   have DM:j<wy.length:=by omega
   exact⟨wy[j],by rw[ez,List.append_assoc,lU DM,bO DM],hw _ (qW DM)⟩
  have gt:∀{k:Nat},(gT 2 (b8 (gN 7) (b8 (gN 8) fG))) (.al,.tup [.int k,.int n]) (bp (.lst (rs.map Row.d)) H Q most ks sd n o7 o8 o9 aV bh)=some (bp (.lst (rs.map Row.d)) H Q most ks sd n (some (.al,.int k)) (some (.al,.int n)) o9 aV bh):=fun {k}=>rfl
  by_cases he:cw r=true
  ·rw[GA hr he]at e ⊢
   have e:wy++[(n:Int)]=Q.wy:=e
   obtain⟨a1,a2⟩:=at_ (rest:=[]) (by rw[←e];simp)
   refine⟨n,some (.al,.int wy.length),some (.al,.int n),?_⟩
   rw[EZ a1,forL,gt,aB,EY hr rP h (by omega) (by omega) a2,aB,if_pos he]
   show forL _ _ _ ((cH (Q.wy.map .int)).drop (wy.length+1)) _=_
   rw[List.drop_eq_nil_of_le (by rw[←e];simp[cH])]
   rfl
  ·have ic:cw r=false:=by simpa using he
   obtain⟨q1,q2,q3⟩:=xh rP h sd
   have hB:=z6 (ks:=(a6 r ks sd).1) (n:=(n:Int)) ic
   obtain⟨b0,b1⟩:=g.a7 hr hB
   have eb:(((cf (a6 r ks sd).1 n r).toNat:Nat):Int)=cf (a6 r ks sd).1 n r:=by omega
   have zk:∀w∈wy++[(n:Int)],ly rs w:=fun w m=>by
    rcases fX.mp m with m|m
    ·exact hw w m
    ·have:w=(n:Int):=by simpa using m
     subst this
     exact⟨by omega,by omega,by rw[v7 hr];exact ic⟩
   rw[GB hr ic]at e ⊢
   obtain⟨_,_,_,⟨rest,pr⟩,_⟩:=v8 g f (a6 r ks sd).1 (a6 r ks sd).2 (wy++[(n:Int)]) (cf (a6 r ks sd).1 n r).toNat (by omega) zk
   rw[e]at pr
   obtain⟨a1,a2⟩:=at_ pr.symm
   obtain⟨n',DK,DL,ih⟩:=E1 g rv H Q most o9 aV bh f (a6 r ks sd).1 (a6 r ks sd).2 (wy++[(n:Int)]) (cf (a6 r ks sd).1 n r).toNat (some (.al,.int wy.length)) (some (.al,.int n)) q1 (by omega) (by omega) (by omega) zk e
   refine⟨n',DK,DL,?_⟩
   rw[EZ a1,forL,gt,aB,EY hr rP h (by omega) (by omega) a2,aB,if_neg he]
   rw[b9,cz,uk,Nat.zero_add,eb]at ih
   exact ih
noncomputable def fI(a b c d:Option (M×D))(ks:List (Key×D))(e f g h i:Option (M×D))(acc:List (Key×D))(o:Option (M×D)):Ev:=[a,b,c,d,some (.fr,.dk ks),e,f,g,h,i,some (.bo,.dk acc),o]
theorem zK(a b c d:Option (M×D)){ks:List (Key×D)}(hk:WK ks)(e f g h i:Option (M×D)):∀(l acc:List (Key×D)) (o:Option (M×D)),(∀p∈l,p∈ks)→((acc++l).map (·.1)).Nodup→(acc++l).length≤9000 →
    ∃o',forL (gN 11) n8 .fr (l.map fun kv=>cg kv.1) (fI a b c d ks e f g h i acc o)=some (.nx (fI a b c d ks e f g h i (acc++bB l) o'))
  |[],acc,o,_,_,_=>⟨o,by simp[forL,bB]⟩
  | (k,x)::l,acc,o,hm,hn,hl=>by
    obtain⟨j,ej,_⟩:=hk.iv _ (hm (k,x) cL)
    obtain rfl:x=.int j:=ej
    have hv:bZ ks k=some (.int j):=zB hk.nd (hm (k,.int j) cL)
    have hs:acc.length<sizeLine:=dJ (by rw[b9]at hl;omega:acc.length≤9000) (by decide)
    have Mh:k∉acc.map (·.1):=by
      rw[dh,yh]at hn
      intro w
      exact hn.2.2 k w k (by simp) rfl
    have gg:gN 11 (.fr,cg k) (fI a b c d ks e f g h i acc o)=some (fI a b c d ks e f g h i acc (some (.fr,cg k))):=rfl
    have get:(iA (jV 4) (jV 11)) (fI a b c d ks e f g h i acc (some (.fr,cg k)))=some (.fr,.int j):=by
      unfold fI
      simp only[iA,jV,List.getElem?_cons_zero,List.getElem?_cons_succ,Option.bind_some,id_eq,kC,zt,hv]
      rfl
    have t:(jB (ae bV (iA (jV 4) (jV 11)) (jC (.int 0)))) (fI a b c d ks e f g h i acc (some (.fr,cg k)))=some (!decide (j=0)):=by
      rw[jB,ae,get]
      simp -implicitDefEqProofs only [jC,Option.bind_some,lI,bR]
    have pN:∀p∈l,p∈ks:=fun p hp=>hm p (cT _ hp)
    rw[bF,forL,gg,aB]
    by_cases hz:j=0
    · have bb:n8 (fI a b c d ks e f g h i acc (some (.fr,cg k)))=some (.nx (fI a b c d ks e f g h i acc (some (.fr,cg k)))):=by
        unfold n8
        rw[bj (by rw[t,hz];rfl)];rfl
      rw[bb,aB]
      have e':bB ((k,.int j)::l)=bB l:=by simp[bB,nz,hz]
      rw[e']
      refine zK a b c d hk e f g h i l acc _ pN ?_ ?_
      · rw[dh,bF]at hn
        rw[dh]
        exact hn.sublist (List.Sublist.append_left (List.sublist_cons_self _ _) _)
      · rw[b9,cz]at hl;rw[b9];omega
    · have bb:n8 (fI a b c d ks e f g h i acc (some (.fr,cg k)))=some (.nx (fI a b c d ks e f g h i (acc++[(k,.int j)]) (some (.fr,cg k)))):=by
        unfold n8
        rw[dC (by rw[t,fJ hz];rfl)]
        have YR:jV 11 (fI a b c d ks e f g h i acc (some (.fr,cg k)))=some (.fr,cg k):=rfl
        rw[fH,get,YR]
        unfold fI
        simp only[List.getElem?_cons_zero,List.getElem?_cons_succ,Option.bind_some,id_eq,zt,bM,fW,if_true,jw,own,hs,List.set_cons_zero,List.set_cons_succ,Gy Mh]
      rw[bb,aB]
      have e':acc++bB ((k,.int j)::l)=(acc++[(k,.int j)])++bB l:=by simp[bB,nz,hz]
      rw[e']
      exact zK a b c d hk e f g h i l (acc++[(k,.int j)]) _ pN (by simpa using hn) (by simpa using hl)
theorem Eb:∀ns:List Int,PyData.depthAll (cv (ns.map .int))≤1
 |[]=>by simp[cv,PyData.depthAll]
 |n::ns=>by
  have:=Eb ns
  simp only[List.map_cons,cv,toPy,PyData.depthAll,PyData.depth]
  omega
theorem Nh(ns:List Int):(toPy (.lst (ns.map .int))).depth≤40:=by
 have:=Eb ns
 simp only[toPy,PyData.depth]
 omega
theorem FG:∀ns:List Int,PyData.eqvAll (cv (ns.map .int)) (cv (ns.map .int))=true
 |[]=>by simp[cv,PyData.eqvAll]
 |n::ns=>by
  have:=FG ns
  simp[cv,toPy,PyData.eqvAll,PyData.eqv,this]
theorem P9{m n:M}(a:List Int):lQ (m,.lst (a.map .int)) (n,.lst (a.map .int))=some (.fr,.bl true):=by
 have hd:=Nh a
 have ok:jv (.lst (a.map .int)) (.lst (a.map .int))=true:=by
  simp only[jv,J.plain,zo,oz,Bool.and_self,Bool.true_and,Nat.min_self]
  exact fL (by omega)
 have e:PyData.eqv (toPy (.lst (a.map .int))) (toPy (.lst (a.map .int)))=true:=by
  simp only[toPy,PyData.eqv];exact FG a
 simp only[lQ,ok,if_true,e]
theorem FH{m n:M}{ks:List (Key×D)}(h:WK ks)(neg:Bool):iK neg (m,.dk ks) (n,.dk ks)=some (.fr,.bl (if neg then false else true)):=by
 have:jR (.dk ks) (.dk ks)=some true:=Oj h h fun _=>rfl
 simp only[iK,this,Option.bind_some]
 cases neg<;>rfl
theorem Ou{l:List Int}{w:Int}:L2.aX ((l++[w]).map D.int) (-1)=some (.int w):=by
 have hl:((l++[w]).map D.int).length=l.length+1:=by simp
 unfold L2.aX
 have:dF ((l++[w]).map D.int).length (-1)=some l.length:=by
  rw[hl];unfold dF;simp;omega
 rw[this]
 simp
section
variable {rs:List Row}{H:D}{Q:RS}{most:Int}{ks:List (Key×D)}{sd:List Int}{n:Int}{o7 o8 o9 aV bh:Option (M×D)}
theorem AQ:(aD bI (ag (ae aj (jV 2) (jC (.int 3))) ah)) (bp (.lst (rs.map Row.d)) H Q most ks sd n o7 o8 o9 aV bh)=some (.fr,.int (Q.wy.length:Int)):=by
 simp -implicitDefEqProofs only [aD,ag,ah,zI,Option.bind_some,AF,List.length_map]
theorem GD{l:List Int}{w:Int}(h:Q.wy=l++[w])(h0:0≤w)(h1:w<rs.length):(ae aQ (ae aj (ae aj (jV 0) (ae aj (ae aj (jV 2) (jC (.int 3))) (cV eQ (jC (.int 1))))) (jC (.int 0))) (jC (.str "end"))) (bp (.lst (rs.map Row.d)) H Q most ks sd n o7 o8 o9 aV bh)=some (.fr,.bl (decide ((rowOf rs w).word = "end"))):=by
 have e3:(ae aj (ae aj (jV 2) (jC (.int 3))) (cV eQ (jC (.int 1)))) (bp (.lst (rs.map Row.d)) H Q most ks sd n o7 o8 o9 aV bh)=some (.al,.int w):=by
  have ng:(cV eQ (jC (.int 1))) (bp (.lst (rs.map Row.d)) H Q most ks sd n o7 o8 o9 aV bh)=some (.fr,.int (-1)):=rfl
  rw[ae,zI,aB,ng,aB,iy,h,Ou];rfl
 rw[ae,Av (AO h0 h1 e3),aB]
 show aQ (.al,.str (rowOf rs w).word) (.fr,.str "end")=_
 rw[dQ]
end
section
variable {rs:List Row}{H:D}{Q:RS}{most:Int}{ks:List (Key×D)}{sd:List Int}{n:Int}{o7 o8 o9 aV bh:Option (M×D)}
theorem Sd(hq:(Q.b=true→∃(l:List Int) (m:Nat),Q.wy=l++[(m:Int)]∧m<rs.length∧cw (rowOf rs m)=true)∧(Q.b=false→∀w∈Q.wy,ly rs w)) :
  (ky (ae dN (aD bI (ag (ae aj (jV 2) (jC (.int 3))) ah)) (jC (.int 0))) (ae aQ (ae aj (ae aj (jV 0) (ae aj (ae aj (jV 2) (jC (.int 3))) (cV eQ (jC (.int 1))))) (jC (.int 0))) (jC (.str "end")))) (bp (.lst (rs.map Row.d)) H Q most ks sd n o7 o8 o9 aV bh)=some (.fr,.bl Q.b):=by
 have g:(ae dN (aD bI (ag (ae aj (jV 2) (jC (.int 3))) ah)) (jC (.int 0))) (bp (.lst (rs.map Row.d)) H Q most ks sd n o7 o8 o9 aV bh)=some (.fr,.bl (decide ((0:Int)<Q.wy.length))):=by
  rw[ae,AQ,aB]
  show dN (.fr,.int Q.wy.length) (.fr,.int 0)=_
  rw[tF]
 unfold ky
 rw[g,aB,bR,aB]
 cases hb:Q.b with
 |true =>
  obtain⟨l,m,e,hm,he⟩:=hq.1 hb
  rw[fL (by rw[e];simp),if_pos rfl,GD e (by omega) (by omega),GC he]
 |false =>
  have hn:=hq.2 hb
  rcases List.eq_nil_or_concat Q.wy with e|⟨l,w,e⟩
  ·rw[fJ (by rw[e];simp),if_neg aZ]
  ·have hw:=hn w (by rw[e];simp)
   rw[fL (by rw[e];simp),if_pos rfl,GD (by rw[e,List.concat_eq_append]) hw.1 hw.2.1,zJ hw.2.2]
theorem Se(hq:(Q.b=false→(Q.wy.length:Int)=most)∧(Q.wy.length:Int)≤most) :
  (cB (jB (ae bV (ae aj (jV 2) (jC (.int 0))) (ae aj (bJ (ag (jC (.str "spent")) (ag (jC (.str "end")) ah))) (aD c7 (ag (jV 9) ah))))) (cB (bY (fm (jB (jV 9))) (jB (ae bV (aD bI (ag (ae aj (jV 2) (jC (.int 3))) ah)) (jV 3)))) (jB (ae dN (aD bI (ag (ae aj (jV 2) (jC (.int 3))) ah)) (jV 3))))) (bp (.lst (rs.map Row.d)) H Q most ks sd n o7 o8 (some (.fr,.bl Q.b)) aV bh)=some false:=by
 have e3:jV 3 (bp (.lst (rs.map Row.d)) H Q most ks sd n o7 o8 (some (.fr,.bl Q.b)) aV bh)=some (.al,.int most):=rfl
 have e9:jV 9 (bp (.lst (rs.map Row.d)) H Q most ks sd n o7 o8 (some (.fr,.bl Q.b)) aV bh)=some (.fr,.bl Q.b):=rfl
 have c1:(jB (ae bV (ae aj (jV 2) (jC (.int 0))) (ae aj (bJ (ag (jC (.str "spent")) (ag (jC (.str "end")) ah))) (aD c7 (ag (jV 9) ah))))) (bp (.lst (rs.map Row.d)) H Q most ks sd n o7 o8 (some (.fr,.bl Q.b)) aV bh)=some false:=by
  have f0:(ae aj (jV 2) (jC (.int 0))) (bp (.lst (rs.map Row.d)) H Q most ks sd n o7 o8 (some (.fr,.bl Q.b)) aV bh)=some (.al,.str (if Q.b=true then "end" else "spent")):=rfl
  have w:(ae aj (bJ (ag (jC (.str "spent")) (ag (jC (.str "end")) ah))) (aD c7 (ag (jV 9) ah))) (bp (.lst (rs.map Row.d)) H Q most ks sd n o7 o8 (some (.fr,.bl Q.b)) aV bh)=some (.fr,.str (if Q.b=true then "end" else "spent")):=by
   have ix:(aD c7 (ag (jV 9) ah)) (bp (.lst (rs.map Row.d)) H Q most ks sd n o7 o8 (some (.fr,.bl Q.b)) aV bh)=some (.fr,.int (if Q.b then 1 else 0)):=by
    simp -implicitDefEqProofs only [aD,ag,ah,e9,Option.bind_some,wW]
   have ls:(bJ (ag (jC (.str "spent")) (ag (jC (.str "end")) ah))) (bp (.lst (rs.map Row.d)) H Q most ks sd n o7 o8 (some (.fr,.bl Q.b)) aV bh)=some (.un,.lst [.str "spent",.str "end"]):=rfl
   rw[ae,ls,aB,ix,aB]
   cases Q.b<;>rfl
  rw[jB,ae,f0,aB,w,aB,wR,fL rfl];rfl
 have c3:(jB (ae dN (aD bI (ag (ae aj (jV 2) (jC (.int 3))) ah)) (jV 3))) (bp (.lst (rs.map Row.d)) H Q most ks sd n o7 o8 (some (.fr,.bl Q.b)) aV bh)=some false:=by
  rw[jB,ae,AQ,aB,e3,aB,tF,fJ (by omega)];rfl
 have c2:(bY (fm (jB (jV 9))) (jB (ae bV (aD bI (ag (ae aj (jV 2) (jC (.int 3))) ah)) (jV 3)))) (bp (.lst (rs.map Row.d)) H Q most ks sd n o7 o8 (some (.fr,.bl Q.b)) aV bh)=some false:=by
  have nb:(fm (jB (jV 9))) (bp (.lst (rs.map Row.d)) H Q most ks sd n o7 o8 (some (.fr,.bl Q.b)) aV bh)=some (!Q.b):=by
   rw[fm,jB,e9];rfl
  rw[bY,nb,aB]
  cases hb:Q.b with
  |true=>rfl
  |false =>
   rw[hb]at e3
   show(if (!false)=true then _ else _)=_
   rw[Bool.not_false,if_pos rfl]
   have w:=AQ (rs:=rs) (H:=H) (Q:=Q) (most:=most) (ks:=ks) (sd:=sd) (n:=n) (o7:=o7) (o8:=o8) (o9:=some (.fr,.bl false)) (aV:=aV) (bh:=bh)
   rw[jB,ae,w,aB,e3,aB,lI,fL (hq.1 hb)];rfl
 rw[cB,c1,aB,if_neg aZ,cB,c2,aB,if_neg aZ,c3]
end
theorem E2{rs:List Row}(g:Good rs)(rv:∀r∈rs,RV r){ks:List (Key×D)}(h:WK ks)(hk:ks.length≤100)(most:Nat)(hm:most≤3000):lz [.lst (rs.map Row.d),.dk ks,bK (bE rs most ks [] [] 0),.int most]=some (.fr,.bl true):=by
 obtain⟨_,wq,lq⟩:=Au g rv h hk most hm
 obtain⟨q1,q2,q3,_,_⟩:=v8 g most ks [] [] 0 g.pos (fun _ z=>nomatch z)
 obtain⟨n',o7,o8,lp⟩:=E1 g rv (.dk ks) (bE rs most ks [] [] 0) most none none none most ks [] [] 0 none none h (by omega) (by simp;omega) g.pos (fun _ z=>nomatch z) rfl
 generalize bE rs most ks [] [] 0=Q at *
 unfold lz fn DZ
 simp -implicitDefEqProofs only [List.map_cons,List.map_nil,List.length_cons,List.length_nil,Nat.reduceAdd,Nat.reduceSub,List.replicate,List.cons_append,List.nil_append]
 have s1:aH 4 (aD gG (ag (jV 1) ah)) [some (.al,.lst (rs.map Row.d)),some (.al,.dk ks),some (.al,bK Q),some (.al,.int most),none,none,none,none,none,none,none,none]=some (.nx [some (.al,.lst (rs.map Row.d)),some (.al,.dk ks),some (.al,bK Q),some (.al,.int most),some (.bo,.dk ks),none,none,none,none,none,none,none]):=by
  simp -implicitDefEqProofs only [aH,aD,ag,ah,jV,List.getElem?_cons_zero,List.getElem?_cons_succ,Option.bind_some,id_eq,gG,h.bH,if_true,oi,List.set_cons_zero,List.set_cons_succ]
 rw[aN s1,aN (e':=[some (.al,.lst (rs.map Row.d)),some (.al,.dk ks),some (.al,bK Q),some (.al,.int most),some (.bo,.dk ks),some (.bo,.lst []),none,none,none,none,none,none]) rfl,
  aN (e':=bp (.lst (rs.map Row.d)) (.dk ks) Q most ks [] ((0:Nat):Int) none none none none none) rfl,
  aN (e':=bp (.lst (rs.map Row.d)) (.dk ks) Q most Q.ks Q.sd n' o7 o8 none none none) (by
   have it:pG (ag (ae aj (jV 2) (jC (.int 3))) ah) (bp (.lst (rs.map Row.d)) (.dk ks) Q most ks [] ((0:Nat):Int) none none none none none)=some (.al,cH (Q.wy.map .int)):=rfl
   unfold fq
   rw[it,aB]
   exact lp),
  aN (e':=bp (.lst (rs.map Row.d)) (.dk ks) Q most Q.ks Q.sd n' o7 o8 (some (.fr,.bl Q.b)) none none) (by
   rw[aH,Sd ⟨q1,fun z=>(q2 z).2⟩];rfl),
  aN (e':=bp (.lst (rs.map Row.d)) (.dk ks) Q most Q.ks Q.sd n' o7 o8 (some (.fr,.bl Q.b)) none none) (by
   rw[bj (Se ⟨fun z=>by have:=(q2 z).1;simp at this;omega,by simp at q3;omega⟩)];rfl),
  aN (e':=bp (.lst (rs.map Row.d)) (.dk ks) Q most Q.ks Q.sd n' o7 o8 (some (.fr,.bl Q.b)) (some (.bo,.dk [])) none) rfl]
 obtain⟨o',dl⟩:=zK (some (.al,.lst (rs.map Row.d))) (some (.al,.dk ks)) (some (.al,bK Q)) (some (.al,.int most)) wq (some (.bo,.lst (Q.sd.map .int))) (some (.fr,.int n')) o7 o8 (some (.fr,.bl Q.b)) Q.ks [] none (fun _ z=>z) (by simpa using wq.nd) (by simpa using lq)
 rw[aN (e':=fI (some (.al,.lst (rs.map Row.d))) (some (.al,.dk ks)) (some (.al,bK Q)) (some (.al,.int most)) Q.ks (some (.bo,.lst (Q.sd.map .int))) (some (.fr,.int n')) o7 o8 (some (.fr,.bl Q.b)) ([]++bB Q.ks) o') (by
  show forL (gN 11) n8 .fr _ _=_
  exact dl)]
 rw[List.nil_append]
 have a:(ae lQ (ae aj (jV 2) (jC (.int 1))) (jV 5)) (fI (some (.al,.lst (rs.map Row.d))) (some (.al,.dk ks)) (some (.al,bK Q)) (some (.al,.int most)) Q.ks (some (.bo,.lst (Q.sd.map .int))) (some (.fr,.int n')) o7 o8 (some (.fr,.bl Q.b)) (bB Q.ks) o')=some (.fr,.bl true):=by
  show lQ (.al,.lst (Q.sd.map .int)) (.bo,.lst (Q.sd.map .int))=_
  exact P9 _
 have b:(ae (iK false) (ae aj (jV 2) (jC (.int 2))) (jV 10)) (fI (some (.al,.lst (rs.map Row.d))) (some (.al,.dk ks)) (some (.al,bK Q)) (some (.al,.int most)) Q.ks (some (.bo,.lst (Q.sd.map .int))) (some (.fr,.int n')) o7 o8 (some (.fr,.bl Q.b)) (bB Q.ks) o')=some (.fr,.bl true):=by
  show iK false (.al,.dk (bB Q.ks)) (.bo,.dk (bB Q.ks))=_
  exact FH (As wq) false
 rw[aP,ky,a,aB,bR,aB,if_pos rfl,b]
 rfl
theorem xj{m:M}(ws:List Int):dO m (ws.map .int)=some (.un,.lst (ws.map .int)):=by
 unfold dO
 rw[gW]
 cases m<;>rfl
theorem n9:∀{ks:List (Key×D)},(∀p∈ks,∃i:Int,p.2=.int i∧0≤i∧i<W)→∃is:List Int,ks.map (·.2)=is.map D.int
 |[],_=>⟨[],rfl⟩
 |p::ks,h=>by
  obtain⟨i,e,_⟩:=h p cL
  obtain⟨is,e'⟩:=n9 fun q hq=>h q (cT _ hq)
  exact⟨i::is,by rw[bF,bF,e,e']⟩
theorem GF{fe:Ev→Option (M×D)}{m:M}{fr:Ev}{b:Bool}(h:∀i:Int,fe (some (m,.int i)::fr)=some (.fr,.bl b)):∀(l:List Int),fU ft fe m fr (l.map .int)=some ((l.map fun _=>D.bl b).map fun x=>(M.fr,x))
 |[]=>rfl
 |i::l=>by
  rw[bF,fU,show ft (some (m,D.int i)::fr)=some true from rfl,aB,if_pos rfl,h,aB,GF h l,aB];rfl
theorem U2{xs:List D}(h:xs.length≤60000):eY (xs.map fun x=>(M.fr,x))=some (.un,.lst xs):=by
 unfold eY
 rw[if_pos (by rw[aU];exact bQ h (by decide)),if_pos (by rw[List.all_map];exact jF.mpr fun _ _=>rfl),yg]
 congr 3
 exact List.map_id xs
theorem Aw(b:Bool):∀l:List Int,oO (l.map fun _=>D.bl b)=some (l.map fun _=>b)
 |[]=>rfl
 |_::l=>by rw[bF,oO,Aw b l];rfl
theorem kinds_ok{Q:RS}(h:WK Q.ks)(hk:Q.ks.length≤9000)(hs:Q.sd.length≤9000)(hw:Q.wy.length≤9000):pT [bK Q]=some (.fr,.bl true):=by
 obtain⟨is,ei⟩:=n9 (As h).iv
 have il:is.length≤9000:=by
  have a:=cP List.length ei
  rw[aU,aU]at a
  rw[←a]
  exact bQ (v3.length_le) hk
 unfold pT fn D9
 simp -implicitDefEqProofs only [List.map_cons,List.map_nil,List.length_cons,List.length_nil,Nat.reduceAdd,Nat.reduceSub,List.replicate,List.cons_append,List.nil_append]
 have f1:(ae aj (jV 0) (jC (.int 1))) [some (.al,bK Q),none]=some (.al,.lst (Q.sd.map .int)):=rfl
 have f2:(ae aj (jV 0) (jC (.int 2))) [some (.al,bK Q),none]=some (.al,.dk (bB Q.ks)):=rfl
 have f3:(ae aj (jV 0) (jC (.int 3))) [some (.al,bK Q),none]=some (.al,.lst (Q.wy.map .int)):=rfl
 have lv:pJ (ae aj (jV 0) (jC (.int 2))) [some (.al,bK Q),none]=some (.un,.lst (is.map .int)):=by
  rw[pJ,f2,aB]
  show dO .al ((bB Q.ks).map (·.2))=_
  rw[ei,xj]
 have a1:(ae aW (ae aj (jV 0) (jC (.int 1))) (pJ (ae aj (jV 0) (jC (.int 2))))) [some (.al,bK Q),none]=some (.un,.lst ((Q.sd++is).map .int)):=by
  rw[ae,f1,aB,lv,aB,qf (by decide) (by decide) (by rw[aU,aU];exact bQ (by omega:Q.sd.length+is.length≤60000) (by decide)),←dh,xj]
 have a2:(ae aW (ae aW (ae aj (jV 0) (jC (.int 1))) (pJ (ae aj (jV 0) (jC (.int 2))))) (ae aj (jV 0) (jC (.int 3)))) [some (.al,bK Q),none]=some (.un,.lst ((Q.sd++is++Q.wy).map .int)):=by
  rw[ae,a1,aB,f3,aB,qf (by decide) (by decide) (by rw[aU,aU,b9];exact bQ (by omega:Q.sd.length+is.length+Q.wy.length≤60000) (by decide)),←dh,xj]
 have hL:(Q.sd++is++Q.wy).length≤60000:=by rw[b9,b9];omega
 generalize Q.sd++is++Q.wy=l at a2 hL
 rw[aN (e':=[some (.al,bK Q),none]) (by rw[bj rfl];rfl),aN (e':=[some (.al,bK Q),none]) (by rw[bj rfl];rfl),
  aN (e':=[some (.al,bK Q),some (.bo,.lst (l.map .int))]) (by rw[aH,a2];rfl)]
 have cp:∀(ty:String) (b:Bool),(∀i:Int,(aD eR (ag (jV 0) (ag (jC (.ty ty)) ah))) [some (.fr,.int i)]=some (.fr,.bl b))→(gF (gn (jV 1)) [] ft (aD eR (ag (jV 0) (ag (jC (.ty ty)) ah)))) [some (.al,bK Q),some (.fr,.lst (l.map .int))]=some (.un,.lst (l.map fun _=>D.bl b)):=fun ty b hh=>by
  have it:gn (jV 1) [some (.al,bK Q),some (.fr,.lst (l.map .int))]=some (.fr,l.map .int):=rfl
  rw[gF,it,aB]
  show(fU ft _ .fr [] (l.map .int)).bind eY=_
  rw[GF hh,aB,U2 (by rw[aU];exact hL)]
 have any:(jB (aD oQ (ag (gF (gn (jV 1)) [] ft (aD eR (ag (jV 0) (ag (jC (.ty "bool")) ah)))) ah))) [some (.al,bK Q),some (.fr,.lst (l.map .int))]=some false:=by
  rw[jB,aD,ag,cp "bool" false (fun _=>rfl),aB]
  show((oQ [(.un,.lst (l.map fun _=>D.bl false))]).bind fQ)=_
  rw[oQ,Aw,aB,show(l.map fun _=>false).any id=false by simp];rfl
 have all:(aD oP (ag (gF (gn (jV 1)) [] ft (aD eR (ag (jV 0) (ag (jC (.ty "int")) ah)))) ah)) [some (.al,bK Q),some (.fr,.lst (l.map .int))]=some (.fr,.bl true):=by
  rw[aD,ag,cp "int" true (fun _=>rfl),aB]
  show oP [(.un,.lst (l.map fun _=>D.bl true))]=_
  rw[oP,Aw,aB,show(l.map fun _=>true).all id=true by simp]
 rw[aN (e':=[some (.al,bK Q),some (.fr,.lst (l.map .int))]) (by
  show aL _ _ _ [some (.al,bK Q),some (.fr,.lst (l.map .int))]=_
  rw[bj any];rfl)]
 rw[aP,all]
 rfl
mutual
theorem FI:∀d:D,J.plain d=true→PyData.eqv (toPy d) (toPy d)=true
 |.non,_=>by simp[toPy,PyData.eqv]
 |.bl b,_=>by simp[toPy,PyData.eqv]
 |.int i,_=>by simp[toPy,PyData.eqv]
 |.str x,_=>by simp[toPy,PyData.eqv]
 |.ty n,h=>by simp[J.plain]at h
 |.dk _,h=>by simp[J.plain]at h
 |.dt _,h=>by simp[J.plain]at h
 |.tup ds,h=>by
  simp only[toPy,PyData.eqv]
  exact zC ds (by simpa only[J.plain]using h)
 |.lst ds,h=>by
  simp only[toPy,PyData.eqv]
  exact zC ds (by simpa only[J.plain]using h)
theorem zC:∀ds:List D,J.cC ds=true→PyData.eqvAll (cv ds) (cv ds)=true
 |[],_=>by simp[cv,PyData.eqvAll]
 |d::ds,h=>by
  have h':J.plain d=true∧J.cC ds=true:=by simpa[J.cC]using h
  simp only[cv,PyData.eqvAll,FI d h'.1,zC ds h'.2,Bool.and_self]
end
theorem E3{n:Nat}:∀{ds:List D},(∀d∈ds,(toPy d).depth≤n)→PyData.depthAll (cv ds)≤n
 |[],_=>by simp[cv,PyData.depthAll]
 |d::ds,h=>by
  have:=E3 (ds:=ds) fun x hx=>h x (cT _ hx)
  have h1:=h d cL
  simp only[cv,PyData.depthAll];omega
theorem zu:∀{ds:List D},(∀d∈ds,J.plain d=true)→J.cC ds=true
 |[],_=>by simp[J.cC]
 |d::ds,h=>by simp only[J.cC,h d List.mem_cons_self,zu fun x hx=>h x (List.mem_cons_of_mem _ hx),Bool.and_self]
theorem Qa{ds:List D}(h1:∀d∈ds,J.plain d=true)(h2:∀d∈ds,(toPy d).depth≤10):jv (.lst ds) (.lst ds)=true:=by
 have hd:(toPy (.lst ds)).depth≤60:=by
  simp only[toPy,PyData.depth]
  have:=E3 h2;omega
 simp only[jv,J.plain,zu h1,oz,Bool.and_self,Bool.true_and]
 exact fL (by omega)
theorem U3{m n:M}{ds:List D}(h1:∀d∈ds,J.plain d=true)(h2:∀d∈ds,(toPy d).depth≤10):fu (m,.lst ds) (n,.lst ds)=some (.fr,.bl false):=by
 have e:=FI (.lst ds) (by simp only[J.plain];exact zu h1)
 simp only[fu,Qa h1 h2,if_true,e,Bool.not_true]
theorem Ni(l:List Row):∀d∈l.map Row.d,J.plain d=true:=fun d hd=>by
 obtain⟨r,_,rfl⟩:=de.mp hd
 have k:∀a:Ko,J.plain (kD a)=true:=fun a=>by cases a<;>simp[kD,J.plain]
 cases r<;>simp[Row.d,Row.ds,J.plain,J.cC,k]
theorem Nj(l:List Row):∀d∈l.map Row.d,(toPy d).depth≤10:=fun d hd=>by
 obtain⟨r,_,rfl⟩:=de.mp hd
 have k:∀a:Ko,(toPy (kD a)).depth=0:=fun a=>by cases a<;>simp[kD,toPy,PyData.depth]
 cases r<;>simp[Row.d,Row.ds,toPy,cv,PyData.depth,PyData.depthAll,k]
theorem MP(d c:Int)(ns:List Str)(h0:(ns.length:Int)≤d):∃i:Int,iY [.int d,.int c,.lst (ns.map .str)]=some (.fr,.int i)∧0≤i∧i<W:=by
 have hW:W=18446744073709551616:=rfl
 unfold iY fn zm
 walk_at "ev"
 have h:¬d<ns.length:=by omega
 simp only[h]
 walk_at "ev"
 by_cases h2:d=ns.length
 ·simp only[h2]
  walk_at "ev"
  have q0:=cQ c (show(3:Int)≠0 by decide)
  have q1:=di c (show(0:Int)<3 by decide)
  exact⟨_,rfl,q0,by omega⟩
 ·simp only[h2]
  walk_at "ev"
  by_cases h3:c%3=0
  ·simp only[h3]
   walk_at "ev"
   have q0:=cQ (c/3) (show(9:Int)≠0 by decide)
   have q1:=di (c/3) (show(0:Int)<9 by decide)
   exact⟨_,rfl,by omega,by omega⟩
  ·simp only[h3]
   walk_at "ev"
   exact⟨_,rfl,cQ _ (by decide),di _ (by decide)⟩
theorem Ov{fs:List Str}{i:Nat}{d:D}(h:(cH (fs.map D.str))[i]?=some d):∃z,fs[i]?=some z∧d=.tup [.int i,.str z]:=by
 unfold cH at h
 rw[qY,cE]at h
 cases e:fs[i]? with
 |none=>rw[e]at h;cases h
 |some z=>rw[e]at h;cases h;exact⟨z,rfl,rfl⟩
theorem GH{α β:Type}(f:α→β)(ws:List α)(lo hi:Option Int):J.cut (ws.map f) lo hi=(J.cut ws lo hi).map f:=by
 unfold J.cut
 simp only[List.length_map,List.map_take,List.map_drop]
theorem Sf{α:Type}(ws:List α)(lo hi:Option Int):(J.cut ws lo hi).length≤ws.length:=by
 unfold J.cut
 rw[kH,List.length_drop];omega
theorem Sg{m:M}(ws:List Int)(lo hi:Option Int):eW (m,.lst (ws.map .int)) lo hi=some (.un,.lst ((J.cut ws lo hi).map .int)):=by
 unfold eW qK oK
 simp only[GH,xj]
theorem Wg{m:M}(ws:List Str):dO m (ws.map .str)=some (.un,.lst (ws.map .str)):=by
 unfold dO
 rw[Fh]
 cases m<;>rfl
theorem GJ{m:M}(ws:List Str)(lo hi:Option Int):eW (m,.lst (ws.map .str)) lo hi=some (.un,.lst ((J.cut ws lo hi).map .str)):=by
 unfold eW qK oK
 simp only[GH,Wg]
theorem J8(ws:List Str)(h:ws.length=5):(J.cut ws none (some 4))=ws.take 4:=by
 have:=h
 match ws,h with
 |[a,b,c,d,e],_=>rfl
theorem Wh{m:M}(rs:List Row):dO m (rs.map Row.d)=some (.un,.lst (rs.map Row.d)):=by
 unfold dO
 rw[sj]
 cases m<;>rfl
noncomputable def dR(ns:List Int)(fs:List Str)(rs:List Row)(ks:List (Key×D))(o4 o5 o6 o7 o8 o9 aV:Option (M×D)):Ev:=[some (.al,.lst (ns.map .int)),some (.fr,.lst (fs.map .str)),some (.bo,.lst (rs.map Row.d)),some (.bo,.dk ks),o4,o5,o6,o7,o8,o9,aV]
theorem Ow(ns:List Int)(fs:List Str)(hf:fs.length=5)(rs:List Row):∃ks o4 o5,(WK ks∧ks.length≤5)∧forL (gT 2 (b8 (gN 4) (b8 (gN 5) fG))) sC .fr (cH (fs.map .str)) (dR ns fs rs [] none none none none none none none)=some (.nx (dR ns fs rs ks o4 o5 none none none none none)):=by
 obtain⟨c3,e3⟩:=vY ns 3 (by decide) (by decide)
 obtain⟨c2,e2⟩:=vY ns 2 (by decide) (by decide)
 obtain⟨e',l,ks,o4,o5,hh,he⟩:=og (g:=gT 2 (b8 (gN 4) (b8 (gN 5) fG))) (b:=sC) (m:=.fr) (ds:=cH (fs.map .str)) (e:=dR ns fs rs [] none none none none none none none)
  (fun i e=>∃ks o4 o5,(WK ks∧ks.length≤i)∧e=dR ns fs rs ks o4 o5 none none none none none) ⟨[],none,none,⟨⟨by simp,fun p hp=>by cases hp⟩,aR _⟩,rfl⟩
  (fun i d e hd ⟨ks,o4,o5,hh,he⟩=>by
   subst he
   obtain⟨z,hz,rfl⟩:=Ov hd
   have hi:i<5:=by
    rw[←hf]
    exact(bt.mp hz).1
   have q0:=cQ (c3/((i:Int)+1)) (show(2:Int)≠0 by decide)
   obtain⟨x,ex,xr⟩:=MP (4+c3/((i:Int)+1)%2) (c3+i) (fs.take 4) (by rw[kH,hf];omega)
   have hs:ks.length<sizeLine:=dJ (bQ hh.2 (by omega:i≤9000)) (by decide)
   generalize hE:dR ns fs rs ks (some (.fr,.int i)) (some (.fr,.str z)) none none none none none=e
   have v0:jV 0 e=some (.al,.lst (ns.map .int)):=by rw[←hE];rfl
   have v1:jV 1 e=some (.fr,.lst (fs.map .str)):=by rw[←hE];rfl
   have v4:jV 4 e=some (.fr,.int i):=by rw[←hE];rfl
   have v5:jV 5 e=some (.fr,.str z):=by rw[←hE];rfl
   have cc:aI cY (ag (jV 0) (ag (jC (.int 3)) ah)) e=some (.fr,.int c3):=(call2 (b:=(.fr,.int 3)) v0 rfl).trans e3
   have YS:aI cY (ag (jV 0) (ag (jC (.int 2)) ah)) e=some (.fr,.int c2):=(call2 (b:=(.fr,.int 2)) v0 rfl).trans e2
   have d0:(ae aW (jV 4) (jC (.int 1))) e=some (.fr,.int ((i:Int)+1)):=by
    rw[ae,v4];rfl
   have d1:(ae bD (aI cY (ag (jV 0) (ag (jC (.int 3)) ah))) (ae aW (jV 4) (jC (.int 1)))) e=some (.fr,.int (c3/((i:Int)+1))):=by
    rw[ae,cc,aB,d0,aB,div_ii (by omega)]
   have a1:(ae aW (jC (.int 4)) (ae aY (ae bD (aI cY (ag (jV 0) (ag (jC (.int 3)) ah))) (ae aW (jV 4) (jC (.int 1)))) (jC (.int 2)))) e=some (.fr,.int (4+c3/((i:Int)+1)%2)):=by
    have m1:(ae aY (ae bD (aI cY (ag (jV 0) (ag (jC (.int 3)) ah))) (ae aW (jV 4) (jC (.int 1)))) (jC (.int 2))) e=some (.fr,.int (c3/((i:Int)+1)%2)):=by
     rw[ae,d1,aB]
     show aY (.fr,.int (c3/((i:Int)+1))) (.fr,.int 2)=_
     rw[fE (by decide)]
    rw[ae,m1];rfl
   have a2:(ae aW (aI cY (ag (jV 0) (ag (jC (.int 3)) ah))) (jV 4)) e=some (.fr,.int (c3+i)):=by
    rw[ae,cc,aB,v4];rfl
   have a3:(gj eW (jV 1) gu (fF (jC (.int 4)))) e=some (.un,.lst ((fs.take 4).map .str)):=by
    have z1:gu e=some none:=rfl
    have z2:(fF (jC (.int 4))) e=some (some 4):=rfl
    rw[gj,v1,aB,z1,aB,z2,aB,GJ,J8 fs hf]
   have a4:=(tL (F:=iY) a1 a2 a3).trans ex
   have t:(jB (ae dN (ae aY (ae bD (aI cY (ag (jV 0) (ag (jC (.int 2)) ah))) (ae aW (jV 4) (jC (.int 1)))) (jC (.int 3))) (jC (.int 0)))) e=some (decide (0<c2/((i:Int)+1)%3)):=by
    have m0:(ae bD (aI cY (ag (jV 0) (ag (jC (.int 2)) ah))) (ae aW (jV 4) (jC (.int 1)))) e=some (.fr,.int (c2/((i:Int)+1))):=by
     rw[ae,YS,aB,d0,aB,div_ii (by omega)]
    have m1:(ae aY (ae bD (aI cY (ag (jV 0) (ag (jC (.int 2)) ah))) (ae aW (jV 4) (jC (.int 1)))) (jC (.int 3))) e=some (.fr,.int (c2/((i:Int)+1)%3)):=by
     rw[ae,m0,aB]
     show aY (.fr,.int (c2/((i:Int)+1))) (.fr,.int 3)=_
     rw[fE (by decide)]
    rw[jB,ae,m1];rfl
   by_cases hc:0<c2/((i:Int)+1)%3
   ·refine⟨e,dR ns fs rs (putD ks (.inr z) (.int x)) (some (.fr,.int i)) (some (.fr,.str z)) none none none none none,by rw[←hE];rfl,?_,putD ks (.inr z) (.int x),_,_,⟨hh.1.put xr,bQ z5 (Nat.succ_le_succ hh.2)⟩,rfl⟩
    unfold sC
    have o3:jw 3 e=some (.bo,ks):=by rw[←hE];rfl
    rw[dC (by rw[t,fL hc]),fH,a4,v5]
    simp only[Option.bind_some,keyOf,bM,if_true,o3,hs]
    rw[←hE];rfl
   ·refine⟨e,e,by rw[←hE];rfl,?_,ks,_,_,⟨hh.1,Nat.le_succ_of_le hh.2⟩,hE.symm⟩
    unfold sC
    rw[bj (by rw[t,fJ hc])];rfl)
 subst he
 have el:(cH (fs.map D.str)).length=5:=by simp[cH,hf]
 rw[el]at hh
 exact⟨ks,o4,o5,hh,l⟩
theorem Jd{F:List D→Option (M×D)}{f1 f2 f3 f4:Ev→Option (M×D)}{e:Ev}{a b c d:M×D}(h1:f1 e=some a)(h2:f2 e=some b)(h3:f3 e=some c)(h4:f4 e=some d):aI F (ag f1 (ag f2 (ag f3 (ag f4 ah)))) e=F [a.2,b.2,c.2,d.2]:=by
 simp only[aI,ag,ah,h1,h2,h3,h4,Option.bind_some,List.map_cons,List.map_nil]
theorem Sh{rs:List Row}(g:Good rs)(rv:∀r∈rs,RV r){ks:List (Key×D)}(h:WK ks)(hk:ks.length≤100)(most:Nat)(hm:most≤3000)(a b o4 o5 o9 aV:Option (M×D)) :
  sE [a,b,some (.bo,.lst (rs.map Row.d)),some (.bo,.dk ks),o4,o5,some (.fr,.int most),some (.bo,.dk ks),some (.bo,.lst (rs.map Row.d)),o9,aV]=some (.nx [a,b,some (.bo,.lst (rs.map Row.d)),some (.bo,.dk ks),o4,o5,some (.fr,.int most),some (.bo,.dk ks),some (.bo,.lst (rs.map Row.d)),o9,none]):=by
 obtain⟨er,wq,lq⟩:=Au g rv h hk most hm
 have ew:=E2 g rv h hk most hm
 obtain⟨_,_,q3,_,q5⟩:=v8 g most ks [] [] 0 g.pos (fun _ z=>nomatch z)
 generalize bE rs most ks [] [] 0=Q at *
 have l3:Q.wy.length≤9000:=by simp at q3;omega
 have l5:Q.sd.length≤9000:=by simp at q5;omega
 have ek:=kinds_ok wq lq l5 l3
 have rc:(aI lL (ag (jV 2) (ag (jV 3) (ag (jV 6) ah)))) [a,b,some (.bo,.lst (rs.map Row.d)),some (.bo,.dk ks),o4,o5,some (.fr,.int most),some (.bo,.dk ks),some (.bo,.lst (rs.map Row.d)),o9,aV]=some (.ut,bK Q) :=
  (tL (F:=lL) (f1:=jV 2) (f2:=jV 3) (f3:=jV 6) (a:=(.bo,.lst (rs.map Row.d))) (b:=(.bo,.dk ks)) (c:=(.fr,.int most)) rfl rfl rfl).trans er
 have cl:vX [a,b,some (.bo,.lst (rs.map Row.d)),some (.bo,.dk ks),o4,o5,some (.fr,.int most),some (.bo,.dk ks),some (.bo,.lst (rs.map Row.d)),o9,some (.fr,bK Q)]=some false:=by
  have k1:(aI pT (ag (jV 10) ah)) [a,b,some (.bo,.lst (rs.map Row.d)),some (.bo,.dk ks),o4,o5,some (.fr,.int most),some (.bo,.dk ks),some (.bo,.lst (rs.map Row.d)),o9,some (.fr,bK Q)]=some (.fr,.bl true):=(Jb (F:=pT) (f1:=jV 10) (a:=(.fr,bK Q)) rfl).trans ek
  have k2:(aI lz (ag (jV 2) (ag (jV 7) (ag (jV 10) (ag (jV 6) ah))))) [a,b,some (.bo,.lst (rs.map Row.d)),some (.bo,.dk ks),o4,o5,some (.fr,.int most),some (.bo,.dk ks),some (.bo,.lst (rs.map Row.d)),o9,some (.fr,bK Q)]=some (.fr,.bl true):=(Jd (F:=lz) (f1:=jV 2) (f2:=jV 7) (f3:=jV 10) (f4:=jV 6) (a:=(.bo,.lst (rs.map Row.d))) (b:=(.bo,.dk ks)) (c:=(.fr,bK Q)) (d:=(.fr,.int most)) rfl rfl rfl rfl).trans ew
  have k3:(jB (ae (iK true) (jV 3) (jV 7))) [a,b,some (.bo,.lst (rs.map Row.d)),some (.bo,.dk ks),o4,o5,some (.fr,.int most),some (.bo,.dk ks),some (.bo,.lst (rs.map Row.d)),o9,some (.fr,bK Q)]=some false:=by
   show(iK true (.bo,.dk ks) (.bo,.dk ks)).bind fQ=_
   rw[FH h true];rfl
  have k4:(jB (ae fu (jV 8) (jV 2))) [a,b,some (.bo,.lst (rs.map Row.d)),some (.bo,.dk ks),o4,o5,some (.fr,.int most),some (.bo,.dk ks),some (.bo,.lst (rs.map Row.d)),o9,some (.fr,bK Q)]=some false:=by
   show(fu (.bo,.lst (rs.map Row.d)) (.bo,.lst (rs.map Row.d))).bind fQ=_
   rw[U3 (Ni rs) (Nj rs)];rfl
  unfold vX
  rw[cB,fm,jB,k1,aB,bR,aB,aB,if_neg (by decide),cB,fm,jB,k2,aB,bR,aB,aB,if_neg (by decide),cB,k3,aB,if_neg (by decide),k4]
 have hz:∀k:Nat,k≤9100→k<sizeLine:=fun k hk=>dJ hk (by decide)
 have p1:qA 0 [.str (if Q.b=true then "end" else "spent"),.lst (Q.sd.map .int),.dk (bB Q.ks),.lst (Q.wy.map .int)] 1=true:=by
  show decide ((Q.sd.map D.int).length+0<sizeLine)=true
  rw[aU]
  exact fL (hz _ (by omega))
 have p2:wZ 1 [.str (if Q.b=true then "end" else "spent"),.lst (Q.sd.map .int),.dk (bB Q.ks),.lst (Q.wy.map .int)] 2=true:=by
  show decide ((bB Q.ks).length+1<sizeLine)=true
  have:=v3 (ks:=Q.ks).length_le
  exact fL (hz _ (by omega))
 have p3:qA 2 [.str (if Q.b=true then "end" else "spent"),.lst (Q.sd.map .int),.dk (bB Q.ks),.lst (Q.wy.map .int)] 3=true:=by
  show decide ((Q.wy.map D.int).length+2<sizeLine)=true
  rw[aU]
  exact fL (hz _ (by omega))
 have hV:xJ [oS (jC (.int 1)) (jC (.int 1)),tZ (jC (.int 2)) (jC (.str "a")) (jC (.int 7)),oS (jC (.int 3)) (jC (.int 0))] ([a,b,some (.bo,.lst (rs.map Row.d)),some (.bo,.dk ks),o4,o5,some (.fr,.int most),some (.bo,.dk ks),some (.bo,.lst (rs.map Row.d)),o9,aV].set 10 none) 0 [.str (if Q.b=true then "end" else "spent"),.lst (Q.sd.map .int),.dk (bB Q.ks),.lst (Q.wy.map .int)]=true:=by
  show(qA 0 [.str (if Q.b=true then "end" else "spent"),.lst (Q.sd.map .int),.dk (bB Q.ks),.lst (Q.wy.map .int)] 1&&(((keyOf (.str "a")).isSome&&wZ 1 [.str (if Q.b=true then "end" else "spent"),.lst (Q.sd.map .int),.dk (bB Q.ks),.lst (Q.wy.map .int)] 2)&&(qA 2 [.str (if Q.b=true then "end" else "spent"),.lst (Q.sd.map .int),.dk (bB Q.ks),.lst (Q.wy.map .int)] 3&&true)))=true
  rw[p1,p2,p3];rfl
 unfold sE yL
 rw[rc,aB]
 show(vX [a,b,some (.bo,.lst (rs.map Row.d)),some (.bo,.dk ks),o4,o5,some (.fr,.int most),some (.bo,.dk ks),some (.bo,.lst (rs.map Row.d)),o9,some (.fr,bK Q)]).bind _=_
 rw[cl,aB,if_neg aZ,if_pos ⟨hV,by simp⟩]
 rfl
theorem Qb(ns:List Int)(hn:ns.length≤63):∃m,xc [.lst (ns.map .int)]=some (m,.bl true):=by
 obtain⟨c0,e0⟩:=vY ns 0 (by decide) (by decide)
 obtain⟨c1,e1⟩:=vY ns 1 (by decide) (by decide)
 obtain⟨fs,fl,fv,en⟩:=PY c0 5 (by decide)
 have m0:=cQ c1 (show(19:Int)≠0 by decide)
 have m1:=di c1 (show(0:Int)<19 by decide)
 have ZI:(fs.take 4).length=4:=by rw[kH,fl];rfl
 obtain⟨rs,⟨g,lv,rv⟩,rl,_,rfl,ep⟩:=Ng (J.cut ns (some 4) (some 44)) (bQ (Sf _ _ _) hn) (fs.take 4) (fun z hz=>fv z (List.mem_of_mem_take hz)) (by omega) (by omega) (c1%19) (by omega)
 have YT:=Sg (m:=.al) ns (some 4) (some 44)
 have YV:eW (.bo,.lst (fs.map .str)) none (some 4)=some (.un,.lst ((fs.take 4).map .str)):=by rw[GJ,J8 fs fl]
 obtain⟨ks,o4,o5,⟨wk,kl⟩,hl⟩:=Ow ns fs fl rs
 have n0:=cQ (c1/19) (show(100:Int)≠0 by decide)
 have n1:=di (c1/19) (show(0:Int)<100 by decide)
 obtain⟨mo,YW⟩:∃mo:Nat,(mo:Int)=c1/19%100:=⟨(c1/19%100).toNat,by omega⟩
 have tn:=fun o9 aV=>Sh g rv wk (by omega) mo (by omega) (some (.al,.lst (ns.map .int))) (some (.fr,.lst (fs.map .str))) o4 o5 o9 aV
 obtain⟨er,_,_⟩:=Au g rv wk (by omega) 1000 (by omega)
 have ew:=E2 g rv wk (by omega) 1000 (by omega)
 refine⟨.fr,?_⟩
 unfold xc fn IW
 rw[show([D.lst (ns.map .int)].map (fun d=>some (M.al,d))++List.replicate (11 - [D.lst (ns.map .int)].length) none:Ev)=[some (.al,.lst (ns.map .int)),none,none,none,none,none,none,none,none,none,none] from rfl]
 rw[aN (e':=[some (.al,.lst (ns.map .int)),some (.bo,.lst (fs.map .str)),none,none,none,none,none,none,none,none,none]) (by
  have cc:aI cY (ag (jV 0) (ag (jC (.int 0)) ah)) [some (.al,.lst (ns.map .int)),none,none,none,none,none,none,none,none,none,none]=some (.fr,.int c0):=(call2 (a:=(.al,.lst (ns.map .int))) (b:=(.fr,.int 0)) rfl rfl).trans e0
  have c:=(call2 (F:=pR) (f2:=jC (.int 5)) (b:=(.fr,.int 5)) cc rfl).trans (show pR [D.int c0,D.int 5]=_ from en)
  simp -implicitDefEqProofs only [aH,c,Option.bind_some,oi]
  rfl)]
 rw[aN (e':=[some (.al,.lst (ns.map .int)),some (.bo,.lst (fs.map .str)),some (.bo,.lst (rs.map Row.d)),none,none,none,none,none,none,none,none]) (by
  simp -implicitDefEqProofs only [aH,aI,ag,ah,gj,fF,gu,ae,jV,jC,List.getElem?_cons_zero,List.getElem?_cons_succ,id_eq,Option.bind_some,qg,Option.map_some,YT,YV,List.map_cons,List.map_nil,e1,fE (show(0:Int)<19 by decide),ep,oi,List.set_cons_zero,List.set_cons_succ])]
 rw[aN (e':=[some (.al,.lst (ns.map .int)),some (.bo,.lst (fs.map .str)),some (.bo,.lst (rs.map Row.d)),some (.bo,.dk []),none,none,none,none,none,none,none]) rfl]
 rw[aN (e':=dR ns fs rs ks o4 o5 none none none none none) (by exact hl)]
 rw[aN (e':=dR ns fs rs ks o4 o5 (some (.fr,.int mo)) none none none none) (by
  have cc:aI cY (ag (jV 0) (ag (jC (.int 1)) ah)) (dR ns fs rs ks o4 o5 none none none none none)=some (.fr,.int c1):=(call2 (f1:=jV 0) (a:=(.al,.lst (ns.map .int))) (b:=(.fr,.int 1)) rfl rfl).trans e1
  have d1:(ae bD (aI cY (ag (jV 0) (ag (jC (.int 1)) ah))) (jC (.int 19))) (dR ns fs rs ks o4 o5 none none none none none)=some (.fr,.int (c1/19)):=by
   rw[ae,cc,aB]
   show bD (.fr,.int c1) (.fr,.int 19)=_
   rw[div_ii (by decide)]
  have d2:(ae aY (ae bD (aI cY (ag (jV 0) (ag (jC (.int 1)) ah))) (jC (.int 19))) (jC (.int 100))) (dR ns fs rs ks o4 o5 none none none none none)=some (.fr,.int mo):=by
   rw[ae,d1,aB,YW]
   show aY (.fr,.int (c1/19)) (.fr,.int 100)=_
   rw[fE (by decide)]
  rw[aH,d2];rfl)]
 rw[aN (e':=dR ns fs rs ks o4 o5 (some (.fr,.int mo)) (some (.bo,.dk ks)) none none none) (by
  have gd:gG [(.bo,.dk ks)]=some (.un,.dk ks):=by simp only[gG,wk.bH,if_true]
  show((gG [(.bo,.dk ks)]).bind fun x=>(lE x).bind fun y=>some (Fl.nx ((dR ns fs rs ks o4 o5 (some (.fr,.int mo)) none none none none).set 7 (some y))))=_
  rw[gd];rfl)]
 rw[aN (e':=dR ns fs rs ks o4 o5 (some (.fr,.int mo)) (some (.bo,.dk ks)) (some (.bo,.lst (rs.map Row.d))) none none) (by
  have gd:qu [(.bo,.lst (rs.map Row.d))]=some (.un,.lst (rs.map Row.d)):=Wh rs
  show((qu [(.bo,.lst (rs.map Row.d))]).bind fun x=>(lE x).bind fun y=>some (Fl.nx ((dR ns fs rs ks o4 o5 (some (.fr,.int mo)) (some (.bo,.dk ks)) none none none).set 8 (some y))))=_
  rw[gd];rfl)]
 rw[aN (e':=dR ns fs rs ks o4 o5 (some (.fr,.int mo)) (some (.bo,.dk ks)) (some (.bo,.lst (rs.map Row.d))) (some (.fr,.int 1)) none) (by
  have it:iI (ag (jC (.int 2)) ah) (dR ns fs rs ks o4 o5 (some (.fr,.int mo)) (some (.bo,.dk ks)) (some (.bo,.lst (rs.map Row.d))) none none)=some (.fr,[.int 0,.int 1]):=rfl
  unfold fq
  rw[it,aB,forL]
  show((sE [some (.al,.lst (ns.map .int)),some (.fr,.lst (fs.map .str)),some (.bo,.lst (rs.map Row.d)),some (.bo,.dk ks),o4,o5,some (.fr,.int mo),some (.bo,.dk ks),some (.bo,.lst (rs.map Row.d)),some (.fr,.int 0),none]).bind _)=_
  rw[tn,aB]
  show forL _ _ _ [.int 1] _=_
  rw[forL]
  show((sE [some (.al,.lst (ns.map .int)),some (.fr,.lst (fs.map .str)),some (.bo,.lst (rs.map Row.d)),some (.bo,.dk ks),o4,o5,some (.fr,.int mo),some (.bo,.dk ks),some (.bo,.lst (rs.map Row.d)),some (.fr,.int 1),none]).bind _)=_
  rw[tn,aB]
  rfl)]
 have t:(jB (ae dN (jV 6) (jC (.int 94)))) (dR ns fs rs ks o4 o5 (some (.fr,.int mo)) (some (.bo,.dk ks)) (some (.bo,.lst (rs.map Row.d))) (some (.fr,.int 1)) none)=some (decide ((94:Int)<mo)):=rfl
 by_cases hc:(94:Int)<mo
 ·have rc:aI lL (w4 1000 (ag (jV 2) (ag (jV 3) ah))) (dR ns fs rs ks o4 o5 (some (.fr,.int mo)) (some (.bo,.dk ks)) (some (.bo,.lst (rs.map Row.d))) (some (.fr,.int 1)) none)=some (.ut,bK (bE rs 1000 ks [] [] 0)):=er
  have wc:=(Jd (F:=lz) (f1:=jV 2) (f2:=jV 7) (f4:=jC (.int 1000)) (a:=(.bo,.lst (rs.map Row.d))) (b:=(.bo,.dk ks)) (d:=(.fr,.int 1000)) rfl rfl rc rfl).trans ew
  rw[qh (by rw[dC (by rw[t,fL hc]),aP,wc];rfl)]
  rfl
 ·rw[aN (bj (by rw[t,fJ hc]))]
  rfl
end b6
namespace b6
open PySem PySem.Spec L2 My J
theorem walk {l:PySem.W.OpenLaw}{q:Program}{loose:List Str}{XP:(Str→Option Value)→Heap→Prop}{YP:World→Heap→Prop}{d:DefRec}{K:Params→PySem.W.Frag} (hn:l.most=some 63) (uK:d.params.defaults=[]) (hd:d.name = "law")
  (hY:∀(w:World) (h:Heap),YP w h→(K w.params).In h) (F:∀(w:World),C.yX (K w.params) xQ∧C.yZ (K w.params) bs∧C.y0 (K w.params) gs) :
  PySem.W.WalkO q loose XP YP l.row.toRowW d [] (fun f vs=>PySem.call f vs) :=
 L2.QD (n:=63) (k:=4) (x := "_law_script") (CX:=fun _=>kZ) (sp:=fun w=>k7 (K w.params) 1 xc) hn (by decide) uK ⟨rfl,by decide,by decide⟩ hY (fun w mg fa h X G Dv=>C.VX X G (hd▸Dv) (F w).2.1 (F w).2.2 (F w).1 ba ok Yz fun _ _ _ _ _ _ _ _=>.of_eq rfl) (fun _ _ a ns hl _ hS=>Ua hS (Qb ns hl)) fun _ _ _ _ _ z=>z
end b6
namespace PySem.W.Fast
def tw6887344734705812390:=0
def tw10792327401094869385:=0
def tw4194998079122540075:=0
def tw16150065013166831147:=0
def tw6986619802362982337:=0
def tw9539166247891224039:=0
def tw6243777771730187476:=0
def tw1497399020806265876:=0
def tw9324305527736606534:=0
def tw3991001048771256040:=0
def tw9090977426236115562:=0
def tw16492915986218071619:=0
def tw8535697471143912548:=0
def tw880766663233406084:=0
def tw12589335269207083733:=0
def tw14697484805157317690:=0
def tw1433846801621578963:=0
def tw13750888562800192150:=0
def tw2592656750725948269:=0
def tw986897027386696320:=0
def tw1258238546499277925:=0
def tw11587982581107512615:=0
def tw11286353021885610650:=0
def tw11705661314482195657:=0
def tw16507866649746925070:=0
def tw15045449214242482810:=0
def tw13570284675320970862:=0
def tw14850261331831019407:=0
def tw13306009116071809826:=0
def tw15182747815329658878:=0
def tw18326435121407183565:=0
def tw13571650782283052163:=0
def tw14550870705505841229:=0
def tw1327365768904092651:=0
def tw14438457274357771251:=0
def tw5246325154346482612:=0
def tw12246631003889538776:=0
def tw1093673704596121108:=0
def tw2099974671418352146:=0
def tw8366144354638329882:=0
def tw17569978873370838206:=0
def tw7806503355173262925:=0
def tw108638843151118899:=0
def tw14567125052611693731:=0
def tw17380216758839764877:=0
def tw4468350604685336032:=0
def tw8147357101254872894:=0
def tw11720041824319315683:=0
def tw7608668540675297607:=0
def tw864365366257300274:=0
def tw14933359560969646642:=0
def tw2254850826456658565:=0
def tw699693357422998033:=0
def tw254350012741101930:=0
def tw1548807391469764169:=0
def tw17614900307137838397:=0
def tw9929181256106252032:=0
def tw7299702941988921622:=0
def tw12968066724933488918:=0
def tw13062936423652825102:=0
def tw6625309095016759133:=0
def tw8399382879725157956:=0
def tw4821436678729033686:=0
def tw17195613785445179386:=0
def tw17678362226117904951:=0
def tw10928797404636291950:=0
def tw2617660376775034304:=0
def tw6970523521277824318:=0
def tw16665992128460128936:=0
def tw9222390632769960072:=0
def tw5802371469486296793:=0
def tw4156173977936170273:=0
def tw15326110453041999969:=0
def tw2777420563203978892:=0
def tw12087841945898323285:=0
def tw1961687149125539388:=0
def tw4871069429262569747:=0
def tw8480091906286930294:=0
def tw2539569692008587336:=0
def tw5791622448368410406:=0
def tw13057175291732046110:=0
def tw3301091638962822911:=0
def tw1650116423266378687:=0
def tw15724775252671983189:=0
def tw3315621091971286075:=0
def tw3688582882702484185:=0
def tw607409656372983363:=0
def tw7031186304184723045:=0
end PySem.W.Fast
open PySem PySem.W PyProof.Rows
set_option maxRecDepth 100000 in
set_option maxHeartbeats 0 in
theorem PySem.Challenge.cw_lazyhoist_k21_whole_runs_row_by_row_holds : PySem.Challenge.rw_lazyhoist_k21_whole_runs_row_by_row.Holds := by
  w_on; o_law; k_head; (case hw => w_witness2)
  k_fill
  refine b6.walk (l := PySem.Challenge.rw_lazyhoist_k21_whole_runs_row_by_row) rfl rfl rfl (fun w h Y => PySem.W.kIn_of Y) ?F
  case F =>
    intro w
    refine ⟨⟨(?_:C.DE _ "law" (b6.top 24) none), (?_:C.DE _ "_law_kinds" (b6.top 23) none), (?_:C.DE _ "_law_walked" (b6.top 22) none), (?_:C.DE _ "_law_step" (b6.top 21) none), (?_:C.DE _ "_law_come_to" (b6.top 20) none), (?_:C.DE _ "_law_program" (b6.top 19) none), (?_:C.DE _ "_law_tested" (b6.top 18) none), (?_:C.DE _ "_law_turned_to" (b6.top 17) none), (?_:C.DE _ "_law_shut" (b6.top 16) none), (?_:C.DE _ "_law_row" (b6.top 15) none), (?_:C.DE _ "_law_operand" (b6.top 14) none), (?_:C.DE _ "_law_digits" (b6.top 13) none), (?_:C.DE _ "_law_names" (b6.top 12) none), (?_:C.DE _ "_law_cell" (b6.top 11) none), (?_:C.DE _ "run" (b6.top 5) (some 1000)), (?_:C.DE _ "without_noughts" (b6.top 9) none), (?_:C.DE _ "row_behind" (b6.top 7) none), (?_:C.DE _ "do_row" (b6.top 6) none), (?_:C.DE _ "worth_of" (b6.top 8) none), (?_:C.DE _ "reckoned" (b6.top 3) none), (?_:C.DE _ "followers" (b6.top 1) none), trivial⟩, ⟨?YX, ?YY, ?YZ, ?Y0, ?Y1, ?Y2, ?Y3, ?Y4, ?Y5, ?Y6, ?Xl, ?Xm, ?Xn, trivial⟩, trivial⟩
    iterate 14 (refine' C.JW ?a ?l ?c ?k; (case a => k_is); (case l => k_is); (case c => k_is); (case k => k_is))
    (refine' C.VR ?a ?l ?e ?c ?k; (case a => k_is); (case l => k_is); (case e => k_is); (case c => k_is); (case k => k_is))
    iterate 6 (refine' C.JW ?a ?l ?c ?k; (case a => k_is); (case l => k_is); (case c => k_is); (case k => k_is))
    case YX => (show PySem.W.nsIn _ mainGlobals "abs" = some none); k_is
    case YY => (show PySem.W.nsIn _ mainGlobals "all" = some none); k_is
    case YZ => (show PySem.W.nsIn _ mainGlobals "any" = some none); k_is
    case Y0 => (show PySem.W.nsIn _ mainGlobals "bool" = some none); k_is
    case Y1 => (show PySem.W.nsIn _ mainGlobals "dict" = some none); k_is
    case Y2 => (show PySem.W.nsIn _ mainGlobals "enumerate" = some none); k_is
    case Y3 => (show PySem.W.nsIn _ mainGlobals "int" = some none); k_is
    case Y4 => (show PySem.W.nsIn _ mainGlobals "isinstance" = some none); k_is
    case Y5 => (show PySem.W.nsIn _ mainGlobals "len" = some none); k_is
    case Y6 => (show PySem.W.nsIn _ mainGlobals "list" = some none); k_is
    case Xl => (show PySem.W.nsIn _ mainGlobals "range" = some none); k_is
    case Xm => (show PySem.W.nsIn _ mainGlobals "str" = some none); k_is
    case Xn => (show PySem.W.nsIn _ mainGlobals "tuple" = some none); k_is
