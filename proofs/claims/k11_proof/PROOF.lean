import PyProof.Rows.All
import Wide.All
import OpenK.AllK
import Wide.FinOn
import KE.KCallOwn
import KE.DatumIndex
import HandS.ForMost
import HandS.Exc
import HandS.TryOnly
import HandS.ExcOwn
import HandS.WordsExc
import HandS.More
import HandS.ClsMeth
import HandS.OwnEq
import HandS.IsInst
import HandS.RaiseMore
import HandS.Style
import HandS.Small
import HandS.Deep
import HandS.Defaults
import HandS.MakeKwOnly
import HandS.Walk
import HandS.TupAny
import HandS.SetFor
import HandS.Zip
import HandS.ExcInit
import HandS.ExcIs
import HandS.ExcField
import HandS.ExcValue
import KE.KExcIs
import PyProof.ListRange
import HandS.ExcCtx
import HandS.ExcInitHot
import HandS.RaiseFrom
import HandS.SuiteRaise
import HandS.HotCalls
import HandS.MapJoin
import HandS.Star
import HandS.SetKeys
import HandS.Set
import HandS.TupSets
import HandS.Comp
import HandS.DictComp
import PySem.Challenge.RW_forkpolls_k11_arguments_by_names
set_option Elab.async false
set_option linter.all false
set_option maxRecDepth 100000
set_option maxHeartbeats 4000000
/-! Forkpolls: rules that the hand layer has not: a def read off its class, own == and != with any answer, str of an instance, repr of data. -/
namespace Fk
open PySem PySem.Spec PyProof.Rows L2

/-! ### C.m(..), m a def of the class (or of a base) -/
def tOff (C : Addr) (sp : Sp) (E : XK) (ta : TE) (t : TA) : TE := fun σ H Q => ta σ H fun x H1 => x = .ref C ∧ t σ H1 fun vs H2 => sp vs H2 Q E
section
variable {X : Cx} {CX : CXT} {k : Nat} {C f : Addr} {mc : Value} {fd : FuncData} {ps : List Str} {sp : Sp} {E : XK} {o e : Expr} {es : List Expr} {m : Str} {pos apos : Pos} {ta : TE} {t : TA} {pl : Sem Bool}
theorem pe_off (he : PE X o ta) (r : ClX.CRead X.K C mc) (c : ClX.CVal X.K C mc m (.ref f) (.ref f)) (F : FnOk X.prog X.w X.K X.mg X.base CX k f fd ps sp) (hr : Room k X.A) (hk : PySem.W.keepIn X.K (.ref f) = true) (hb : Binds X.K fd ps []) (hx : Passes CX X E) (ha : PA X (e :: es) t)
    (hst : starEach (e :: es) X.env = (false, eval e X.env) :: starEach es X.env := by rfl) (hpl : (backTo pos (starEach es X.env)).any (·.1) = false := by rfl)
    (ht : eval (.Call (.Attribute o m apos) (e :: es) [] pos) X.env = (do
      let u ← eval o X.env
      standAt apos.atName
      let (g, front) ← holding [u] (getMethod u m pl)
      callWith pos g front (backTo pos (starEach (e :: es) X.env)) (backToKw pos (keywordEach [] X.env))) := by rfl) :
    PE X (.Call (.Attribute o m apos) (e :: es) [] pos) (tOff C sp E ta t) := by
  refine ⟨fun pins s σ H Q I q0 => ?_⟩
  refine PySem.W.methodCall_KW (pl := pl) (thn (he.run pins s σ H _ I q0) fun u s1 ⟨x, H1, I1, rx, ex, q⟩ => ?_) ht
  subst ex; cases rx
  refine PySem.W.method_cls I1.kIn r.ga (ClX.getcval_ok I1 r c fun s2 I2 => ?_)
  refine PySem.W.callWith_K (h₀ := X.base) I2.ok.mod.kin hk (thn (ha.run pos pins s2 σ H1 _ I2 q) fun us s3 ⟨vs, H2, I3, rv, q2⟩ => ⟨I3.kIn, ?_⟩) hst hpl
  exact run_fn F hr hb .nil hx I3 rv (by rw [List.append_nil]; exact q2)
end

/-! ### == and != by the text's own __eq__, any answer -/
/-- what the class at C says of comparing and showing its instances: f the own __eq__, g the own __str__ -/
structure EqC (K : PySem.W.Frag) (C f : Addr) : Prop where
  eq : PySem.W.findIn K (.ref C) "__eq__" = some (some (.ref f))
  ne : PySem.W.findIn K (.ref C) "__ne__" = some (some (.builtin "object.__ne__"))
  fn : PySem.W.isFn K (.ref f) = true
  ob : PySem.W.mroIn K C (.type "object") = some true
def rOwn (K : PySem.W.Frag) (C : Addr) (sp : Sp) (E : XK) (g : Bool → Bool) : R2 := fun x y H Q => ∃ (a dx : Addr) (fs : List (Str × V)) (t : Value), x = .ref a ∧ H a = some (.ins C dx fs) ∧ TyX K H y t ∧ PySem.W.notFirst K C t = true ∧
  sp [x, y] H (fun v H' => ∃ b : Bool, v = .bl b ∧ Q (.bl (g b)) H') E
section
variable {X : Cx} {CX : CXT} {k : Nat} {C f : Addr} {fd : FuncData} {ps : List Str} {sp : Sp} {E : XK}
theorem op_own_eq (T : EqC X.K C f) (F : FnOk X.prog X.w X.K X.mg X.base CX k f fd ps sp) (hr : Room k X.A) (hb : Binds X.K fd ps []) (hx : Passes CX X E) : OpR X (compareOp .Eq) (rOwn X.K C sp E fun b => b) := by
  intro pins s σ H x y v u Q I rx ry hq
  obtain ⟨a, dx, fs, t, rfl, ha, ty, hn, q⟩ := hq
  cases rx
  obtain ⟨mA, J, _⟩ := ins_get I.hok ha
  obtain ⟨od, J1, _⟩ := J.look
  obtain ⟨m, fr⟩ := I.fr
  obtain ⟨P, Z, p, _⟩ := kit_of I ry ty
  show wpAny (model X.prog X.w) X.A (richCompare .Eq (.ref a) u) (EP X pins σ Q) X.xe s
  refine PySem.W.cmp_K hr.units0 fr I.ok.mod.kin J1 (Z.ty _ _ I.kIn p) hn T.eq T.fn ?_
  refine thn (run_fn (vs := [.ref a, y]) F hr hb .nil hx I (.cons rfl (.cons ry .nil)) (by rw [List.append_nil]; exact q)) fun w' s' z => ?_
  obtain ⟨v', H', I', rv, b, rfl, q'⟩ := z
  cases rv
  exact ⟨.bl b, H', I', rfl, q'⟩
end
end Fk

namespace PySem.W
open PySem PySem.Spec PyProof.Rows
section
variable {prog : Program} {w : World} {A : Around} {E : Value → Shared → Prop} {s : Shared} {K : Frag} {x C f : Addr} {ox : Obj} {od : Option Obj} {b tb : Value}
theorem fk_slotNe : Slot "object" "__ne__" "object.__ne__" := F.cmp_object.ne
/-- object.__ne__ asks the own __eq__ -/
theorem fk_objNe (hu : A.units < cLine) (X : K.In s.heap) (I : InstAt s.heap x ox C od) (he : findIn K (.ref C) "__eq__" = some (some (.ref f))) (hf : isFn K (.ref f) = true) {Q : Fin → Shared → Prop}
    (h : wpAny (model prog w) A (call (.ref f) [.ref x, b]) (fun v s' => ∃ r, v = .bool r ∧ Q (.done (.ret (.bool (!r)))) s') E s) :
    wpAny (model prog w) A (Builtin.«object.__ne__» ⟨[.ref x, b], []⟩) Q E s := by
  unfold Builtin.«object.__ne__»
  repeat (first
    | with_reducible refine wpAny_cRoomFor hu ?_
    | (refine wpAny_bind (m := callSpecialIfBound? (.ref x) (Str.ofString "__eq__") [b]) (ifBound_K X I he hf (wpAny_mono h (fun v s' z => by
          obtain ⟨r, rfl, q⟩ := z
          repeat (first | exact q | exact wpAny_pure q | exact wpAny_truthy_bool q | (refine wpAny_bind (m := truthy (.bool _)) (wpAny_truthy_bool ?_)) | wp_step)) fun _ _ e => e)))
    | wp_step)
theorem fk_ne (hu : A.units + 1 < cLine) (X : K.In s.heap) (I : InstAt s.heap x ox C od) (hb : Looks (model prog w) s.heap (typeOf b) tb) (hn : notFirst K C tb = true)
    (hs : findIn K (.ref C) "__ne__" = some (some (.builtin "object.__ne__"))) (he : findIn K (.ref C) "__eq__" = some (some (.ref f))) (hf : isFn K (.ref f) = true) (ho : mroIn K C (.type "object") = some true) {Q : Value → Shared → Prop}
    (h : wpAny (model prog w) A.in1 (call (.ref f) [.ref x, b]) (fun v s' => ∃ r, v = .bool r ∧ Q (.bool (!r)) s') E s) :
    wpAny (model prog w) A (richCompare .NotEq (.ref x) b) Q E s := by
  have sub : Looks (model prog w) s.heap (isInstance (.ref x) (.type "object")) true := I.type.andThen (looks_mroIn X ho)
  have hc : wpAny (model prog w) A (call (.builtin "object.__ne__") [.ref x, b]) (fun v s' => ∃ r, v = .bool r ∧ Q v s') E s := by
    refine wpAny_call (codeAny_call_builtin fk_slotNe.plain F.cmpEntry_ne (check_slot F.cmpKind_ne F.cmpSplit_ne sub (F.cmpArgs_ne _ _) ?_))
    refine fk_objNe hu X I he hf (wpAny_mono h (fun v s' z => ?_) fun _ _ e => e)
    obtain ⟨r, rfl, q⟩ := z
    exact ⟨r, rfl, ⟨_, rfl, q⟩⟩
  have one : wpAny (model prog w) A (tryCompare (.ref x) "__ne__" b) (fun r s' => ∃ v, r = some v ∧ Q v s') E s := by
    unfold tryCompare
    refine wpAny_bind ?_
    simp only [callSpecialIfBound?, bindSpecialIfBound?]
    refine wpAny_holding (wpAny_bind (wpAny_bind (wpAny_bind (I.type.here ((looks_findIn X hs).here ?_)))))
    simp only [fk_slotNe.bind]
    refine wpAny_bind (wpAny_askSetting (wpAny_ite ?_))
    split
    · refine wpAny_bind (wpAny_pure (wpAny_pure (wpAny_bind (wpAny_mono hc (fun v s' z => ?_) fun _ _ e => e))))
      obtain ⟨r, rfl, q⟩ := z
      exact wpAny_pure (wpAny_pure ⟨_, rfl, q⟩)
    · refine wpAny_tryCatch (wpAny_bind (wpAny_pure (wpAny_pure (wpAny_bind (wpAny_mono hc (fun v s' z => ?_) fun _ _ e => e)))))
      obtain ⟨r, rfl, q⟩ := z
      exact wpAny_pure (wpAny_pure ⟨_, rfl, q⟩)
  unfold richCompare; simp only [oneThing_ref]; rw [cmpInfo_NotEq]
  refine wpAny_holding (wpAny_bind (wpAny_cRoomFor (Nat.lt_of_succ_lt hu) (wpAny_bind (I.type.here (wpAny_bind (hb.here ?_))))))
  have last : wpAny (model prog w) A (tryCompare (.ref x) "__ne__" b) (fun r s' => ∃ v, r = some v ∧ Q v s') E s := one
  split
  · rename_i q
    have e : subIn K tb (.ref C) = some false := (Bool.or_eq_true_iff.mp hn).elim (fun e => by rw [beq_iff_eq.mp e] at q; simp at q) fun e => beq_iff_eq.mp e
    refine wpAny_bind ((looks_subIn X e).here ?_); simp only [Bool.false_eq_true, if_false]
    refine wpAny_bind (wpAny_mono last (fun r s' z => ?_) fun _ _ e => e); obtain ⟨v, rfl, q'⟩ := z; exact wpAny_pure q'
  · refine wpAny_bind (wpAny_pure ?_); simp only [Bool.false_eq_true, if_false]
    refine wpAny_bind (wpAny_mono last (fun r s' z => ?_) fun _ _ e => e); obtain ⟨v, rfl, q'⟩ := z; exact wpAny_pure q'
end
end PySem.W

namespace Fk
open PySem PySem.Spec PyProof.Rows L2
section
variable {X : Cx} {CX : CXT} {k : Nat} {C f : Addr} {fd : FuncData} {ps : List Str} {sp : Sp} {E : XK}
theorem env0_at {P : Program} {w : World} {K : PySem.W.Frag} {mg : Str → Option Value} {base : Heap} {A B : Around} {outer : List Env} {s : Shared} {H : Hp} (e : Env0 P w K mg base A outer s H) (h : B.frames = A.frames) : Env0 P w K mg base B outer s H :=
  ⟨by rw [h]; exact e.frames, e.mod, e.bs, e.bsz, e.funs, e.frf, e.hok, e.bare⟩
/-- a def's call at an Around below the running one -/
theorem run_at {pins : List (Addr × Obj)} {σ : L2.St} {H : Hp} {s : Shared} {Q : VK} {us : List Value} {vs : List V} {A : Around} (F : FnOk X.prog X.w X.K X.mg X.base CX k f fd ps sp) (hr : Room k A) (hA : A.frames = X.A.frames) (hb : Binds X.K fd ps []) (hx : Passes CX X E)
    (I : Inv X pins σ H s) (r : Vals vs us) (h : sp vs H Q E) : wpAny (model X.prog X.w) A (call (.ref f) us) (EP X pins σ Q) X.xe s := by
  have hl : us.length = ps.length := by rw [← r.length]; exact F.len _ _ _ _ h
  have bb := hb s us I.kIn (by rw [List.append_nil]; exact hl)
  rw [List.append_nil] at bb
  refine wpAny_call (codeAny_mono (F.run A X.stack s H ⟨us, []⟩ us vs Q E hr (env0_at I.env0 hA) bb r h) fun z s' hq => ?_)
  cases z with
  | error e => exact hx pins σ H s e s' I hq
  | ok fl => cases fl <;> first | exact I.after hq | exact False.elim hq
theorem op_own_ne (T : EqC X.K C f) (F : FnOk X.prog X.w X.K X.mg X.base CX k f fd ps sp) (hr : Room (k + 1) X.A) (hb : Binds X.K fd ps []) (hx : Passes CX X E) : OpR X (compareOp .NotEq) (rOwn X.K C sp E fun b => !b) := by
  intro pins s σ H x y v u Q I rx ry hq
  obtain ⟨a, dx, fs, t, rfl, ha, ty, hn, q⟩ := hq
  cases rx
  obtain ⟨mA, J, _⟩ := ins_get I.hok ha
  obtain ⟨od, J1, _⟩ := J.look
  obtain ⟨P, Z, p, _⟩ := kit_of I ry ty
  show wpAny (model X.prog X.w) X.A (richCompare .NotEq (.ref a) u) (EP X pins σ Q) X.xe s
  have hu := hr.units
  refine PySem.W.fk_ne (by omega) I.kIn J1 (Z.ty _ _ I.kIn p) hn T.ne T.eq T.fn T.ob ?_
  refine thn (run_at (vs := [.ref a, y]) F hr.in1 rfl hb hx I (.cons rfl (.cons ry .nil)) q) fun w' s' z => ?_
  obtain ⟨v', H', I', rv, b, rfl, q'⟩ := z
  cases rv
  exact ⟨b, rfl, .bl (!b), H', I', rfl, q'⟩
/-- str(o), o an instance with an own __str__ -/
structure StrC (K : PySem.W.Frag) (C f : Addr) : Prop where
  st : PySem.W.findIn K (.ref C) "__str__" = some (some (.ref f))
  fn : PySem.W.isFn K (.ref f) = true
def rStrOwn (C : Addr) (sp : Sp) (E : XK) : List V → Hp → VK → Prop := fun xs H Q => ∃ (a dx : Addr) (fs : List (Str × V)), xs = [.ref a] ∧ H a = some (.ins C dx fs) ∧ sp xs H (fun v H' => ∃ z : Str, v = .str z ∧ Q (.str z) H') E
theorem call_str_own (T : StrC X.K C f) (F : FnOk X.prog X.w X.K X.mg X.base CX k f fd ps sp) (hr : Room (k + 2) X.A) (hb : Binds X.K fd ps []) (hx : Passes CX X E) : CallR X (.type "str") (rStrOwn C sp E) := by
  intro pins s σ H xs us Q I r hq
  obtain ⟨a, dx, fs, rfl, ha, q⟩ := hq
  obtain ⟨u, rfl, ru⟩ := vals1 r
  cases ru
  obtain ⟨mA, J, _⟩ := ins_get I.hok ha
  obtain ⟨od, J1, _⟩ := J.look
  have hu := hr.in1.in1.units0
  refine PySem.W.kso_call hu I.kIn J1 T.st T.fn ?_
  refine thn (run_at (vs := [.ref a]) F hr.in1.in1 rfl hb hx I (.cons rfl .nil) q) fun w' s' z => ?_
  obtain ⟨v', H', I', rv, y, rfl, q'⟩ := z
  obtain ⟨t, rfl⟩ := rv
  exact ⟨.str y, H', I', ⟨t, rfl⟩, q'⟩
/-- repr of data of any depth, in a def that is called with no repr under way -/
def rReprD (K : PySem.W.Frag) : List V → Hp → VK → Prop := fun xs H Q => ∃ (x : V) (d : PyData), xs = [x] ∧ Dp K H x d ∧ d.showable = true ∧ d.hasDict = false ∧ d.depth ≤ 50 ∧ d.shown.length ≤ sizeLine ∧ Q (.str d.shown) H
theorem call_repr_data (hg : X.A.guards = some []) (hr : Room k X.A) : CallR X (.builtin "repr") (rReprD X.K) := by
  intro pins s σ H xs us Q I r hq
  obtain ⟨x, d, rfl, hd, hs, hn, hz, hl, q⟩ := hq
  obtain ⟨u, rfl, ru⟩ := vals1 r
  obtain ⟨as, rd⟩ := Dp.reads I d x u hd ru
  have hu := hr.units
  have big : ∀ a : Addr, u = .ref a → wpAny (model X.prog X.w) X.A (call (.builtin "repr") [u]) (EP X pins σ Q) X.xe s := fun a e => by
    subst e
    exact repr_of_reads' (h₀ := s.heap) rd hs (fun z => by rw [hn] at z; cases z) hg (by omega) (fun _ _ z => z) (fun h' v tk hk => ⟨.str d.shown, H, I.kept hk, ⟨v, rfl⟩, q⟩) hl
  cases hd with
  | non => cases ru; exact P.repr_of_none ⟨.str _, H, I.tok _, ⟨_, rfl⟩, q⟩
  | bl b => cases ru; exact P.repr_of_bool ⟨.str _, H, I.tok _, ⟨_, rfl⟩, by cases b <;> exact q⟩
  | int i =>
    obtain ⟨t, rfl⟩ := ru
    exact P.repr_of_int (by simpa [PyData.showable] using hs) ⟨.str _, H, I.tok _, ⟨_, rfl⟩, q⟩
  | str z =>
    obtain ⟨t, rfl⟩ := ru
    exact P.repr_of_str ⟨.str _, H, I.tok _, ⟨_, rfl⟩, q⟩ (hsz := hl)
  | lst h1 h2 => exact big _ ru
  | tup h1 h2 => exact big _ ru
/-- str(x), x an int or a text -/
theorem call_str_is : CallR X (.type "str") (fun xs H Q => (∃ i, xs = [.int i] ∧ i.natAbs.log2 < 1920 ∧ Q (.str (toString i)) H) ∨ ∃ a, xs = [.str a] ∧ Q (.str a) H) := CallR.or call_str_int SkE.call_str_str
end
end Fk

/-! Forkpolls: the law's own def, called where no repr is under way. -/
namespace Fk
open PySem PySem.Spec PyProof.Rows L2

/-- a def's promise where no repr (or the like) is under way -/
structure FnG (P : Program) (w : World) (K : PySem.W.Frag) (mg : Str → Option Value) (base : Heap) (CX : CXT) (k : Nat) (f : Addr) (fd : FuncData) (ps : List Str) (sp : Sp) : Prop where
  run : ∀ (A : Around) (outer : List Env) (s : Shared) (H : Hp) (args : Args) (us : List Value) (vs : List V) (Q : VK) (E : XK), A.guards = some [] → Room k A → Env0 P w K mg base A outer s H → BindsTo s fd args (ps.zip us) → Vals vs us → sp vs H Q E →
    codeAny (model P w) A (.call (.ref f) args) (CR CX outer P w H s Q E) s
theorem guards_deeper {A : Around} {env : Env} (h : A.guards = some []) : (A.deeper env).guards = some [] := by
  first | exact h | simpa [Around.deeper] using h
section
variable {CX : CXT} {P : Program} {w : World} {K : PySem.W.Frag} {mg : Str → Option Value} {base : Heap} {k : Nat} {f : Addr} {x qual : Str} {st : Stmt} {fd : FuncData} {N ps : List Str} {sp : Sp}
theorem fun_okG (F : Fun K x qual st f fd) (S : FnScope N ps (defScope st)) (len : ∀ vs H Q E, sp vs H Q E → vs.length = ps.length)
    (body : ∀ (cdv : Value) (A : Around) (outer : List Env) (s : Shared) (H : Hp) (vs : List V) (Q : VK) (E : XK), (A.deeper (envOfC qual (defScope st) s.heap.objs.size f cdv)).guards = some [] → Room k (A.deeper (envOfC qual (defScope st) s.heap.objs.size f cdv)) → sp vs H Q E →
      ∃ t, PSs (cxOf CX P w K mg base N qual (defScope st) f cdv A outer s H E) (defBody st) t ∧ t { nx := fun _ H' => Q .non H', rt := Q } (start N vs) H) : FnG P w K mg base CX (k + 1) f fd ps sp := by
  obtain ⟨oc, od, kV, doc, pm, an, cdv, ct, osl, rfl, lk, hcd⟩ := F.ex
  refine ⟨fun A outer s H args us vs Q E hG hr e0 hb r hsp => ?_⟩
  have KX : K.In s.heap := e0.mod.kin.keeps fun b o e => (e0.bs b o e).1
  have lim : s.heap.NoLimit := e0.mod.nolimit.keeps fun b o e => (e0.bs b o e).1
  refine codeAny_call_function hr.depth (KX _ _ lk) rfl S.co S.gen rfl (PySem.W.codeRec_of KX hcd) (hb _ _ _ _ ?_)
  refine wpAny_newFunctionEnv_cells S.kind (fun y hy => (S.par y.1 (List.of_mem_zip hy).1).elim (fun q => .inl q) fun q => .inr ⟨q, PySem.W.cellsFrom_some _ _ _ (.inl q)⟩) fun env he s1 z => ?_
  subst he
  obtain ⟨t, ht, hq⟩ := body cdv A outer s H vs Q E (guards_deeper hG) (hr.deeper _) hsp
  refine ⟨lim.keeps z.toInCall.keep, codeAny_func (wpAny_mono (ht.run [] s1 (start N vs) H _ (inv_start S hr.hd e0 (len _ _ _ _ hsp) r z) hq) (fun fl s' hs => ?_) fun _ _ hs => hs)⟩
  cases fl with
  | ret u => exact let ⟨v, _, H', J, rv, q⟩ := hs; ⟨v, H', J.os, J.bare, J.base, J.hok, rv, q⟩
  | next => exact let ⟨_, H', J, q⟩ := hs; ⟨V.non, H', J.os, J.bare, J.base, J.hok, (rfl : Value.none = Value.none), q⟩
  | brk => exact let ⟨_, _, _, q⟩ := hs; q.elim
  | cont => exact let ⟨_, _, _, q⟩ := hs; q.elim
end
/-- the heap at the law's entry, of which the script alone may be tracked -/
theorem lawG_core {P : Program} {w : World} {K : PySem.W.Frag} {mg mb : Str → Option Value} {CX : CXT} {k : Nat} {fa a : Addr} {fd : FuncData} {x : Str} {sp : Sp} {s : Shared} {vs : List Value} {H : Hp}
    (KX : K.In s.heap) (hns : s.heap.Ns mainGlobals mg) (hb : s.heap.Ns builtinsNs mb) (hbb : ∀ x : Str, x ≠ "__name__" → mb x = bootBuiltins x) (hlim : s.heap.NoLimit) (hg : s.gens = #[])
    (ha : s.heap.get? a = some { cls := .type "list", data := .seq vs.toArray }) (hr : Room k callerA)
    (F : ∀ base : Heap, K.In base → base.Ns mainGlobals mg → FnG P w K mg base CX k fa fd [x] sp) (bind : ∀ (s : Shared) (u : Value), BindsTo s fd ⟨[u], []⟩ [(x, u)])
    (hsp : sp [.ref a] H (fun v _ => v = .bl true) fun _ _ _ => False) (hCX : ∀ e s', CX [] H s (fun _ _ _ => False) e s' → False)
    (hO : Only H) (hok : HOk P w H s.heap) (hA : ∀ b, H b ≠ none → b = a) (hK : H a ≠ none → K.lookup a = none) :
    codeAny (model P w) callerA (.call (.ref fa) ⟨[.ref a], []⟩) (fun r s' => r = .ok (.ret (.bool true)) ∧ OldK s.heap s'.heap ∧ s'.os = s.os ∧ AllBare s'.gens) s := by
  have free : ∀ {b : Addr} {o : Obj} {es : Array DictEntry} {ep : Nat}, s.heap.get? b = some o → o.data = .dict es ep → H b = none := by
    intro b o es ep e d
    by_cases q : H b = none
    · exact q
    · rw [hA b q, ha] at e
      cases e
      have d' : Data.seq vs.toArray _ = Data.dict es ep := d
      cases d'
  have ns : ∀ {b : Addr} {m : Str → Option Value}, s.heap.Ns b m → (hidT s.heap H).Ns b m := fun z => let ⟨o, es, ep, e, d, r⟩ := z; ⟨o, es, ep, hidT_get e (free e d), d, r⟩
  have kin : K.In (hidT s.heap H) := fun b o e => hidT_get (KX b o e) (by
    by_cases q : H b = none
    · exact q
    · have eb := hA b q
      subst eb
      rw [hK q] at e
      cases e)
  obtain ⟨mc, l1, l2⟩ := hlim
  have e0 : Env0 P w K mg (hidT s.heap H) callerA [] s H := ⟨rfl, ⟨kin, ns hns, ⟨mb, ns hb, hbb⟩, ⟨mc, ns l1, l2⟩⟩, fun b o e => of_hidT e, Nat.le_of_eq (hidT_size _ _), trivial, fun b hb => absurd (show b ∈ ([] : List Addr) from hb) List.not_mem_nil, hok, AllBare.of_eq hg⟩
  refine codeAny_mono ((F _ kin (ns hns)).run callerA [] s H ⟨[.ref a], []⟩ [.ref a] [.ref a] _ _ rfl hr e0 (bind s (.ref a)) (.cons rfl .nil) hsp) fun r s' h => ?_
  cases r with
  | error e => exact (hCX e s' h).elim
  | ok fl =>
    cases fl with
    | next => exact h.elim
    | brk => exact h.elim
    | cont => exact h.elim
    | ret u =>
      obtain ⟨v, H', os, bare, un, hok', rv, q⟩ := h
      obtain rfl : v = V.bl true := q
      obtain rfl : u = Value.bool true := rv
      refine ⟨rfl, OldK.of_keep fun b o e => ?_, os, bare⟩
      by_cases q : H b = none
      · exact un.keep b o e q (fun z => absurd (show b ∈ ([] : List Addr) from z) List.not_mem_nil) List.not_mem_nil
      · rcases hO b with z | ⟨ob, xs, z⟩
        · exact (q z).elim
        · obtain ⟨e1, _⟩ := hok b _ z
          obtain ⟨e2, _⟩ := hok' b _ (un.frzs b ob _ z)
          rw [e] at e1
          cases e1
          exact e2
theorem walk_ofG {l : PySem.W.OpenLaw} {n k : Nat} {q : Program} {loose : List Str} {XP : (Str → Option Value) → Heap → Prop} {YP : World → Heap → Prop} {d : DefRec} {K : Params → PySem.W.Frag} {CX : World → CXT} {sp : World → Sp} {x : Str}
    (hn : l.most = some n) (hn2 : n ≤ sizeLine) (hdf : d.params.defaults = []) (hr : Room k callerA) (hY : ∀ (w : World) (h : Heap), YP w h → (K w.params).In h)
    (F : ∀ (w : World) (mg : Str → Option Value) (fa : Addr) (h : Heap), (K w.params).In h → h.Ns mainGlobals mg → mg d.name = some (.ref fa) →
      ∃ fd : FuncData, (∀ (s : Shared) (u : Value), BindsTo s fd ⟨[u], []⟩ [(x, u)]) ∧ ∀ base : Heap, (K w.params).In base → base.Ns mainGlobals mg → FnG l.prog w (K w.params) mg base (CX w) k fa fd [x] (sp w))
    (hsp : ∀ (w : World) (H : Hp) (a : Addr) (ns : List Int), ns.length ≤ n → Only H → SqL (K w.params) H a (ns.map V.int) → sp w [.ref a] H (fun v _ => v = .bl true) fun _ _ _ => False)
    (hCX : ∀ (w : World) (H : Hp) (s : Shared) (e : Value) (s' : Shared), CX w [] H s (fun _ _ _ => False) e s' → False) :
    PySem.W.WalkO q loose XP YP l.row.toRowW d [] (fun f vs => PySem.call f vs) := by
  refine Att.attach_call hn hdf fun w s₀ s mg mb fa o pm cd doc a vs ns G Y ho hd hcd hmg hobj hints hlen hg => ?_
  have KX := hY w _ Y
  obtain ⟨fd, hb, hF⟩ := F w mg fa _ KX G.T.g hmg
  have rv := vals_ints hints
  have hl : ns.length ≤ sizeLine := Nat.le_trans hlen hn2
  by_cases hk : (K w.params).lookup a = none
  · have at_a : (fun b => if b = a then some (HO.frz { cls := .type "list", data := .seq vs.toArray } (.lst (ns.map V.int))) else none) a = some (HO.frz { cls := .type "list", data := .seq vs.toArray } (.lst (ns.map V.int))) := if_pos rfl
    have off : ∀ b, b ≠ a → (fun b => if b = a then some (HO.frz { cls := .type "list", data := .seq vs.toArray } (.lst (ns.map V.int))) else none) b = none := fun b hb => if_neg hb
    generalize (fun b => if b = a then some (HO.frz { cls := .type "list", data := .seq vs.toArray } (.lst (ns.map V.int))) else none) = H at at_a off
    have hO : Only H := fun b => (Decidable.em (b = a)).elim (fun e => .inr ⟨_, _, e ▸ at_a⟩) fun e => .inl (off b e)
    refine lawG_core (H := H) KX G.T.g G.T.b G.T.builtins G.T.nolimit hg hobj hr hF hb (hsp w H a ns hlen hO (.inl (.inr ⟨_, at_a⟩))) (fun e s' => hCX w H s e s') hO (fun b u z => ?_) (fun b z => ?_) fun _ => hk
    · by_cases e : b = a
      · subst e
        rw [at_a] at z
        cases z
        exact ⟨hobj, by rw [List.length_map]; exact hl, vs, _, rv, hobj⟩
      · rw [off b e] at z
        cases z
    · exact Decidable.byContradiction fun e => z (off b e)
  · cases hk2 : (K w.params).lookup a with
    | none => exact (hk hk2).elim
    | some o2 =>
      have e := KX a o2 hk2
      rw [hobj] at e
      cases e
      have hO : Only (fun _ => none) := fun _ => .inl rfl
      exact lawG_core (H := fun _ => none) KX G.T.g G.T.b G.T.builtins G.T.nolimit hg hobj hr hF hb
        (hsp w _ a ns hlen hO (.inr ⟨_, vs.toArray, _, hk2, rfl, rfl, rfl, by rw [List.size_toArray, hints.length]; exact hl, by simpa using rv⟩)) (fun e s' => hCX w _ s e s') hO (fun b u z => nomatch (show (none : Option HO) = some u from z)) (fun b z => absurd rfl z) fun z => absurd rfl z
end Fk

/-! Forkpolls: what a reading comes to, with a few objects (R.D) that may change under a word (R.J) and all else standing. -/
namespace Fk
open PySem PySem.Spec PyProof.Rows L2

/-- D: objects that may change, by the word J; h: objects that stand while one evaluates, and of which no fact speaks -/
structure Res where
  D : List Addr
  h : List Addr
  J : Hp → Prop
  at_ : ∀ H, J H → ∀ x, x ∈ D ∨ x ∈ h → H x ≠ none
  st : ∀ H H', J H → (∀ x, x ∈ D → H' x = H x) → (∀ x, x ∈ h → H' x ≠ none) → J H'
def Free : Res where
  D := []
  h := []
  J := fun _ => True
  at_ := fun _ _ _ h => h.elim (fun z => absurd z List.not_mem_nil) fun z => absurd z List.not_mem_nil
  st := fun _ _ _ _ _ => True.intro
/-- facts stand from H to H' -/
def Gr (R : Res) (H H' : Hp) : Prop := R.J H' ∧ ∀ x o, H x = some o → x ∉ R.D → x ∉ R.h → H' x = some o
/-- what evaluating does -/
def Gv (R : Res) (H H' : Hp) : Prop := Gr R H H' ∧ ∀ x, x ∈ R.h → H' x = H x
abbrev VP := V → Hp → Prop
/-- from now on -/
abbrev Al (R : Res) (φ : Hp → Prop) (H : Hp) : Prop := ∀ H', Gr R H H' → φ H'
def Stb (R : Res) (P : VP) : Prop := ∀ v H H', Gr R H H' → P v H → P v H'
section
variable {R : Res} {H H1 H2 H' : Hp} {p : Addr} {o : HO}
theorem free_j : Free.J H := True.intro
theorem Gr.refl (h : R.J H) : Gr R H H := ⟨h, fun _ _ e _ _ => e⟩
theorem Gv.refl (h : R.J H) : Gv R H H := ⟨Gr.refl h, fun _ _ => rfl⟩
theorem Gr.tr (a : Gr R H H1) (b : Gr R H1 H2) : Gr R H H2 := ⟨b.1, fun x o e n m => b.2 x o (a.2 x o e n m) n m⟩
theorem Gr.trans (a : Gr R H H1) (b : Gv R H1 H2) : Gr R H H2 := a.tr b.1
theorem Gv.trans (a : Gv R H H1) (b : Gv R H1 H2) : Gv R H H2 := ⟨a.1.tr b.1, fun x hx => (b.2 x hx).trans (a.2 x hx)⟩
theorem Gr.at (a : Gr R H H1) : Gv R H1 H1 := Gv.refl a.1
theorem Gv.at (a : Gv R H H1) : Gv R H1 H1 := Gv.refl a.1.1
theorem Gv.same (j : R.J H) (e : Same H H') : Gv R H H' := by
  have k : ∀ x, x ∈ R.D ∨ x ∈ R.h → H' x = H x := fun x hx => by
    cases q : H x with
    | none => exact absurd q (R.at_ H j x hx)
    | some o => exact e x o q
  exact ⟨⟨R.st H H' j (fun x hx => k x (.inl hx)) fun x hx => by rw [k x (.inr hx)]; exact R.at_ H j x (.inr hx), fun x o q _ _ => e x o q⟩, fun x hx => k x (.inr hx)⟩
theorem same_new (hp : H p = none) : Same H (upd H p o) := fun b x e => by
  rw [upd_ne (ne_of_none e hp)]
  exact e
theorem Gv.new (j : R.J H) (hp : H p = none) : Gv R H (upd H p o) := Gv.same j (same_new hp)
theorem off (j : R.J H) (hp : H p = none) : p ∉ R.D ∧ p ∉ R.h := ⟨fun h => R.at_ H j p (.inl h) hp, fun h => R.at_ H j p (.inr h) hp⟩
theorem Gr.back (a : Gr R H H1) (hp : H1 p = none) : H p = none := by
  obtain ⟨h1, h2⟩ := off a.1 hp
  cases q : H p with
  | none => rfl
  | some o =>
    rw [a.2 p o q h1 h2] at hp
    cases hp
theorem Gr.free (a : Gr Free H H1) : Same H H1 := fun b o e => a.2 b o e List.not_mem_nil List.not_mem_nil
theorem gv_free (a : Same H H1) : Gv Free H H1 := Gv.same True.intro a
theorem Al.gr {φ : Hp → Prop} (a : Gr R H H1) (h : Al R φ H) : Al R φ H1 := fun H' g => h H' (a.tr g)
theorem Al.now {φ : Hp → Prop} (h : Al R φ H) (j : R.J H) : φ H := h H (Gr.refl j)
theorem al_of (hp : H p = some o) (hd : p ∉ R.D ∧ p ∉ R.h) : Al R (fun H' => H' p = some o) H := fun H' g => g.2 p o hp hd.1 hd.2
end

def Is (v : V) : VP := fun u _ => u = v
/-- v shows the datum d, from now on -/
def Rp (K : PySem.W.Frag) (R : Res) (d : PyData) : VP := fun u H => Al R (fun H' => Dp K H' u d) H
/-- a list, a tuple of these values, from now on -/
def IsL (K : PySem.W.Frag) (R : Res) (xs : List V) : VP := fun u H => ∃ p, u = .ref p ∧ Al R (fun H' => SqL K H' p xs) H
def IsU (K : PySem.W.Frag) (R : Res) (xs : List V) : VP := fun u H => ∃ p, u = .ref p ∧ Al R (fun H' => SqT K H' p xs) H
/-- a list of one's own -/
def IsN (xs : List V) : VP := fun u H => ∃ p, u = .ref p ∧ H p = some (.lst xs)
section
variable {K : PySem.W.Frag} {R : Res} {v : V} {d : PyData} {xs : List V}
theorem stb_is : Stb R (Is v) := fun _ _ _ _ h => h
theorem stb_rp : Stb R (Rp K R d) := fun _ _ _ g h => Al.gr g h
theorem stb_isL : Stb R (IsL K R xs) := fun _ _ _ g ⟨p, e, h⟩ => ⟨p, e, Al.gr g h⟩
theorem stb_isU : Stb R (IsU K R xs) := fun _ _ _ g ⟨p, e, h⟩ => ⟨p, e, Al.gr g h⟩
end
/-- te comes to some v of which P holds -/
def EvP (R : Res) (te : TE) (σ : L2.St) (H : Hp) (P : VP) : Prop := ∀ H1, Gr R H H1 → ∀ Q : VK, (∀ v H2, Gv R H1 H2 → P v H2 → Q v H2) → te σ H1 Q
def EvT (R : Res) (tt : TT) (σ : L2.St) (H : Hp) (b : Bool) : Prop := ∀ H1, Gr R H H1 → ∀ Q : Bool → Hp → Prop, (∀ H2, Gv R H1 H2 → Q b H2) → tt σ H1 Q
def PsOk : List VP → List V → Hp → Prop
  | [], [], _ => True
  | P :: Ps, v :: vs, H => P v H ∧ PsOk Ps vs H
  | _, _, _ => False
def EvA (R : Res) (ta : TA) (σ : L2.St) (H : Hp) (Ps : List VP) : Prop := ∀ H1, Gr R H H1 → ∀ Q : List V → Hp → Prop, (∀ vs H2, Gv R H1 H2 → PsOk Ps vs H2 → Q vs H2) → ta σ H1 Q
def EvO (R : Res) (to : TO) (σ : L2.St) (H : Hp) (o : Option Int) : Prop := ∀ H1, Gr R H H1 → ∀ Q : Option Int → Hp → Prop, (∀ H2, Gv R H1 H2 → Q o H2) → to σ H1 Q
/-- an operation on values; a call on values -/
def RvP (R : Res) (r : R2) (x y : V) (H : Hp) (P : VP) : Prop := ∀ Q : VK, (∀ v H2, Gv R H H2 → P v H2 → Q v H2) → r x y H Q
def RcP (R : Res) (r : List V → Hp → VK → Prop) (vs : List V) (H : Hp) (P : VP) : Prop := ∀ Q : VK, (∀ v H2, Gv R H H2 → P v H2 → Q v H2) → r vs H Q
section
variable {K : PySem.W.Frag} {R : Res} {σ : L2.St} {H H' : Hp} {ta tb te : TE} {t u : TT} {x y v : V} {r : R2} {P P' A B : VP} {i j : Int}
theorem EvP.gr (g : Gr R H H') (h : EvP R te σ H P) : EvP R te σ H' P := fun H1 a => h H1 (g.tr a)
theorem EvT.gr {b : Bool} (g : Gr R H H') (h : EvT R t σ H b) : EvT R t σ H' b := fun H1 a => h H1 (g.tr a)
theorem ev_imp (h : EvP R te σ H P) (k : ∀ v H', Gr R H H' → P v H' → P' v H') : EvP R te σ H P' := fun H1 g Q q => h H1 g Q fun v H2 g2 p => q v H2 g2 (k v H2 (g.trans g2) p)
theorem ev_var {i : Nat} (h : σ[i]? = some (some v)) (p : Al R (P v) H) : EvP R (tVar i) σ H P := fun H1 g Q q => ⟨v, h, q v H1 g.at (p H1 g)⟩
theorem ev_is {i : Nat} (h : σ[i]? = some (some v)) : EvP R (tVar i) σ H (Is v) := fun H1 g Q q => ⟨v, h, q v H1 g.at rfl⟩
theorem ev_c : EvP R (tC v) σ H (Is v) := fun H1 g Q q => q v H1 g.at rfl
theorem ev_cP (p : Al R (P v) H) : EvP R (tC v) σ H P := fun H1 g Q q => q v H1 g.at (p H1 g)
theorem ev_op (sA : Stb R A) (ha : EvP R ta σ H A) (hb : EvP R tb σ H B) (hr : ∀ x y H1, Gr R H H1 → A x H1 → B y H1 → RvP R r x y H1 P) : EvP R (tOp r ta tb) σ H P := fun H1 g Q q =>
  ha H1 g _ fun x H2 g2 px => hb H2 (g.trans g2) _ fun y H3 g3 py => hr x y H3 (g.trans (g2.trans g3)) (sA x H2 H3 g3.1 px) py Q fun v H4 g4 pv => q v H4 (g2.trans (g3.trans g4)) pv
theorem ev_opS (ha : EvP R ta σ H (Is x)) (hb : EvP R tb σ H (Is y)) (hr : ∀ H1, Gr R H H1 → RvP R r x y H1 P) : EvP R (tOp r ta tb) σ H P :=
  ev_op stb_is ha hb fun x' y' H1 g hx hy => by
    cases hx; cases hy
    exact hr H1 g
theorem ev_I0 {g : Int → Int → V} (ha : EvP R ta σ H (Is (.int i))) (hb : EvP R tb σ H (Is (.int j))) : EvP R (tOp (rI0 g) ta tb) σ H (Is (g i j)) := ev_opS ha hb fun H1 g1 Q q => ⟨i, j, rfl, rfl, q _ H1 g1.at rfl⟩
theorem ev_I {C : Int → Int → Prop} {g : Int → Int → V} (hc : C i j) (ha : EvP R ta σ H (Is (.int i))) (hb : EvP R tb σ H (Is (.int j))) : EvP R (tOp (rI C g) ta tb) σ H (Is (g i j)) := ev_opS ha hb fun H1 g1 Q q => ⟨i, j, rfl, rfl, hc, q _ H1 g1.at rfl⟩
theorem ev_eq (hs : scal x y = true) (ha : EvP R ta σ H (Is x)) (hb : EvP R tb σ H (Is y)) : EvP R (tOp rEq ta tb) σ H (Is (.bl (decide (x = y)))) := ev_opS ha hb fun H1 g1 Q q => ⟨hs, q _ H1 g1.at rfl⟩
theorem ev_ne (hs : scal x y = true) (ha : EvP R ta σ H (Is x)) (hb : EvP R tb σ H (Is y)) : EvP R (tOp rNe ta tb) σ H (Is (.bl (!decide (x = y)))) := ev_opS ha hb fun H1 g1 Q q => ⟨hs, q _ H1 g1.at rfl⟩
theorem ev_val {w : V} (h : EvP R te σ H (Is v)) (e : v = w) : EvP R te σ H (Is w) := e ▸ h
theorem ev_neg {i : Int} (ha : EvP R ta σ H (Is (.int i))) : EvP R (tUn (rU fun i => .int (-i)) ta) σ H (Is (.int (-i))) := fun H1 g Q q => ha H1 g _ fun x H2 g2 px => by
  cases px
  exact ⟨i, rfl, q _ H2 g2 rfl⟩
/-- x in, not in a tuple or list of flat things -/
theorem ev_in {neg : Bool} {xs : List V} (fx : flatV x = true) (fa : xs.all flatV = true) (ha : EvP R ta σ H (Is x)) (hb : EvP R tb σ H (fun u H => ∃ p, u = .ref p ∧ (SqL K H p xs ∨ SqT K H p xs))) :
    EvP R (tOp (rIn K neg) ta tb) σ H (Is (.bl (if neg then !inV x xs else inV x xs))) := ev_op stb_is ha hb fun x' y H1 g hx hy Q q => by
  cases hx
  obtain ⟨p, rfl, h⟩ := hy
  exact ⟨p, xs, rfl, h, fx, fa, q _ H1 g.at rfl⟩
theorem et_test {b : Bool} (h : EvP R te σ H (Is (.bl b))) : EvT R (tTest te) σ H b := fun H1 g _ q => h H1 g _ fun v H2 g2 e => ⟨b, e, q H2 g2⟩
theorem et_B {b : Bool} (h : EvP R te σ H (Is (.bl b))) : EvT R (tB te) σ H b := fun H1 g _ q => h H1 g _ fun v H2 g2 e => ⟨b, e, q H2 g2⟩
theorem et_is {a b : Bool} (h : EvT R t σ H a) (e : a = b) : EvT R t σ H b := e ▸ h
theorem et_and {a b : Bool} (h1 : EvT R t σ H a) (h2 : a = true → EvT R u σ H b) : EvT R (tAnd t u) σ H (a && b) := fun H1 g Q q => h1 H1 g _ fun H2 g2 => by
  cases a with
  | true => exact (if_pos rfl).mpr (h2 rfl H2 (g.trans g2) Q fun H3 g3 => q H3 (g2.trans g3))
  | false => exact (if_neg Bool.false_ne_true).mpr (q H2 g2)
theorem et_or {a b : Bool} (h1 : EvT R t σ H a) (h2 : a = false → EvT R u σ H b) : EvT R (tOr t u) σ H (a || b) := fun H1 g Q q => h1 H1 g _ fun H2 g2 => by
  cases a with
  | true => exact (if_pos rfl).mpr (q H2 g2)
  | false => exact (if_neg Bool.false_ne_true).mpr (h2 rfl H2 (g.trans g2) Q fun H3 g3 => q H3 (g2.trans g3))
theorem et_not {a : Bool} (h1 : EvT R t σ H a) : EvT R (tNot t) σ H (!a) := fun H1 g _ q => h1 H1 g _ q
theorem ev_and {a b : Bool} (h1 : EvP R ta σ H (Is (.bl a))) (h2 : a = true → EvP R tb σ H (Is (.bl b))) : EvP R (tAndV ta tb) σ H (Is (.bl (a && b))) := fun H1 g Q q => h1 H1 g _ fun v H2 g2 e => ⟨a, e, by
  cases a with
  | true => exact (if_pos rfl).mpr (h2 rfl H2 (g.trans g2) Q fun v H3 g3 => q v H3 (g2.trans g3))
  | false => exact (if_neg Bool.false_ne_true).mpr (q _ H2 g2 rfl)⟩
theorem ev_or {a b : Bool} (h1 : EvP R ta σ H (Is (.bl a))) (h2 : a = false → EvP R tb σ H (Is (.bl b))) : EvP R (tOrV ta tb) σ H (Is (.bl (a || b))) := fun H1 g Q q => h1 H1 g _ fun v H2 g2 e => ⟨a, e, by
  cases a with
  | true => exact (if_pos rfl).mpr (q _ H2 g2 rfl)
  | false => exact (if_neg Bool.false_ne_true).mpr (h2 rfl H2 (g.trans g2) Q fun v H3 g3 => q v H3 (g2.trans g3))⟩
theorem ev_not {a : Bool} (h1 : EvP R ta σ H (Is (.bl a))) : EvP R (tNotV ta) σ H (Is (.bl (!a))) := fun H1 g Q q => h1 H1 g _ fun v H2 g2 e => ⟨a, e, q _ H2 g2 rfl⟩
theorem ev_chain {r r' : R2} {tc : TE} {z : V} {a b : Bool} (ha : EvP R ta σ H (Is x)) (hb : EvP R tb σ H (Is y)) (hc : EvP R tc σ H (Is z)) (h1 : ∀ H1, Gr R H H1 → RvP R r x y H1 (Is (.bl a))) (h2 : ∀ H1, Gr R H H1 → RvP R r' y z H1 (Is (.bl b))) :
    EvP R (tChain r r' ta tb tc) σ H (Is (.bl (a && b))) := fun H1 g Q q =>
  ha H1 g _ fun x' H2 g2 ex => by
    cases ex
    exact hb H2 (g.trans g2) _ fun y' H3 g3 ey => by
      cases ey
      exact h1 H3 (g.trans (g2.trans g3)) _ fun w H4 g4 ew => ⟨a, ew, by
        cases a with
        | true => exact (if_pos rfl).mpr (hc H4 (g.trans (g2.trans (g3.trans g4))) _ fun z' H5 g5 ez => by
            cases ez
            exact h2 H5 (g.trans (g2.trans (g3.trans (g4.trans g5)))) _ fun v H6 g6 ev => q v H6 (g2.trans (g3.trans (g4.trans (g5.trans g6)))) ev)
        | false => exact (if_neg Bool.false_ne_true).mpr (q _ H4 (g2.trans (g3.trans g4)) rfl)⟩
theorem rv_i0 {g : Int → Int → V} (jj : R.J H) : RvP R (rI0 g) (.int i) (.int j) H (Is (g i j)) := fun Q q => ⟨i, j, rfl, rfl, q _ H (Gv.refl jj) rfl⟩
theorem ev_if {b : Bool} (h : EvT R t σ H b) (h1 : b = true → EvP R ta σ H P) (h2 : b = false → EvP R tb σ H P) : EvP R (tIf t ta tb) σ H P := fun H1 g Q q => h H1 g _ fun H2 g2 => by
  cases b with
  | true => exact (if_pos rfl).mpr (h1 rfl H2 (g.trans g2) Q fun v H3 g3 => q v H3 (g2.trans g3))
  | false => exact (if_neg Bool.false_ne_true).mpr (h2 rfl H2 (g.trans g2) Q fun v H3 g3 => q v H3 (g2.trans g3))
/-! ### arguments, calls, displays -/
theorem ea_nil : EvA R tNil σ H [] := fun H1 g _ q => q [] H1 g.at trivial
theorem ea_cons {tr : TA} {Ps : List VP} (s : Stb R P) (h : EvP R te σ H P) (hr : EvA R tr σ H Ps) : EvA R (tCons te tr) σ H (P :: Ps) := fun H1 g _ q =>
  h H1 g _ fun x H2 g2 px => hr H2 (g.trans g2) _ fun xs H3 g3 ps => q (x :: xs) H3 (g2.trans g3) ⟨s x H2 H3 g3.1 px, ps⟩
theorem ea_is {tr : TA} {Ps : List VP} (h : EvP R te σ H (Is v)) (hr : EvA R tr σ H Ps) : EvA R (tCons te tr) σ H (Is v :: Ps) := ea_cons stb_is h hr
theorem ev_cb {r : List V → Hp → VK → Prop} {ta : TA} {Ps : List VP} (h : EvA R ta σ H Ps) (hr : ∀ vs H1, Gr R H H1 → PsOk Ps vs H1 → RcP R r vs H1 P) : EvP R (tCB r ta) σ H P := fun H1 g Q q =>
  h H1 g _ fun vs H2 g2 ps => hr vs H2 (g.trans g2) ps Q fun v H3 g3 pv => q v H3 (g2.trans g3) pv
theorem ev_call {sp : Sp} {dvs : List V} {E : XK} {ta : TA} {Ps : List VP} (h : EvA R ta σ H Ps) (hs : ∀ vs H1, Gr R H H1 → PsOk Ps vs H1 → ∀ Q : VK, (∀ v H2, Gv R H1 H2 → P v H2 → Q v H2) → sp (vs ++ dvs) H1 Q E) : EvP R (tCall sp dvs E ta) σ H P := fun H1 g Q q =>
  h H1 g _ fun vs H2 g2 ps => hs vs H2 (g.trans g2) ps Q fun v H3 g3 pv => q v H3 (g2.trans g3) pv
theorem psOk1 {vs : List V} (h : PsOk [Is x] vs H) : vs = [x] := by
  match vs, h with
  | [a], ⟨e, _⟩ => exact congrArg (fun z => [z]) e
theorem psOk2 {vs : List V} (h : PsOk [Is x, Is y] vs H) : vs = [x, y] := by
  match vs, h with
  | [a, b], ⟨e1, e2, _⟩ => cases e1; cases e2; rfl
/-- isinstance -/
theorem ev_isi {ty : Value} {c : V} {cu : Value} {b : Bool} (ha : EvP R ta σ H (Is x)) (hc : EvP R tb σ H (Is c)) (hk : ClsV c cu) (hx : Al R (fun H' => TyX K H' x ty) H) (e : PySem.W.kitOne K ty cu = some b) :
    EvP R (tCB (rIsi K) (tCons ta (tCons tb tNil))) σ H (Is (.bl b)) := ev_cb (ea_is ha (ea_is hc ea_nil)) fun vs H1 g ps Q q => by
  cases psOk2 ps
  exact ⟨x, c, ty, cu, b, rfl, hk, hx H1 g, e, q _ H1 g.at rfl⟩
/-- scalars as data -/
def toD : V → PyData
  | .bl b => .bool b
  | .int i => .int i
  | .str z => .str z
  | _ => .none
theorem dp_toD (h : flatV v = true) : Dp K H v (toD v) := by
  cases v with
  | non => exact .non
  | bl b => exact .bl b
  | int i => exact .int i
  | str z => exact .str z
  | _ => exact absurd h Bool.false_ne_true
theorem rp_flat (h : flatV v = true) : Rp K R (toD v) v H := fun _ _ => dp_toD h
theorem ev_D (h : EvP R te σ H (Is v)) (f : flatV v = true) : EvP R te σ H (Rp K R (toD v)) := ev_imp h fun u H' _ e => by
  cases e
  exact rp_flat f
theorem dpAll_of {ds : List PyData} : ∀ {vs : List V}, PsOk (ds.map (Rp K R)) vs H → ∀ H', Gr R H H' → DpAll K H' vs ds := by
  induction ds with
  | nil => intro vs h H' g; match vs, h with | [], _ => exact .nil
  | cons d ds ih => intro vs h H' g; match vs, h with | v :: vs, ⟨h1, h2⟩ => exact .cons (h1 H' g) (ih h2 H' g)
theorem dpAll_len {ds : List PyData} : ∀ {vs : List V}, DpAll K H vs ds → vs.length = ds.length := by
  induction ds with
  | nil => intro vs h; cases h; rfl
  | cons d ds ih => intro vs h; cases h with | cons h1 h2 => exact congrArg Nat.succ (ih h2)
theorem psOk_len : ∀ {Ps : List VP} {vs : List V}, PsOk Ps vs H → vs.length = Ps.length := by
  intro Ps
  induction Ps with
  | nil => intro vs h; match vs, h with | [], _ => rfl
  | cons P Ps ih => intro vs h; match vs, h with | v :: vs, ⟨_, h⟩ => exact congrArg Nat.succ (ih h)
theorem small {n : Nat} (h : n ≤ 1000) : n ≤ sizeLine := Nat.le_of_lt (small1000 h)
theorem ev_tupD {ta : TA} {ds : List PyData} (h : EvA R ta σ H (ds.map (Rp K R))) (hl : ds.length ≤ 1000) : EvP R (tTup ta) σ H (Rp K R (.tuple ds)) := fun H1 g Q q =>
  h H1 g _ fun vs H2 g2 ps => by
    have el := (psOk_len ps).trans (List.length_map _)
    exact ⟨small (by omega), fun p hp => q _ _ (g2.trans (Gv.new g2.1.1 hp)) fun H' g' => .tup (.inl (.inl (g'.2 p _ upd_same (off g2.1.1 hp).1 (off g2.1.1 hp).2))) (dpAll_of ps H' ((Gv.new g2.1.1 hp).1.tr g'))⟩
theorem ev_lstD {ta : TA} {ds : List PyData} (h : EvA R ta σ H (ds.map (Rp K R))) (hl : ds.length ≤ 1000) : EvP R (tLst ta) σ H (Rp K R (.list ds)) := fun H1 g Q q =>
  h H1 g _ fun vs H2 g2 ps => by
    have el := (psOk_len ps).trans (List.length_map _)
    exact ⟨small (by omega), fun p hp => q _ _ (g2.trans (Gv.new g2.1.1 hp)) fun H' g' => .lst (.inl (.inl (g'.2 p _ upd_same (off g2.1.1 hp).1 (off g2.1.1 hp).2))) (dpAll_of ps H' ((Gv.new g2.1.1 hp).1.tr g'))⟩
/-- == and != of data -/
theorem ev_eqD {d e : PyData} (sd : SeqAt.shaped d = true) (se : SeqAt.shaped e = true) (ha : EvP R ta σ H (Rp K R d)) (hb : EvP R tb σ H (Rp K R e)) : EvP R (tOp (rEqD K) ta tb) σ H (Is (.bl (PyData.eqv d e))) :=
  ev_op stb_rp ha hb fun x y H1 g hx hy Q q => ⟨d, e, hx H1 g.at.1, hy H1 g.at.1, sd, se, q _ H1 g.at rfl⟩
theorem ev_neD {d e : PyData} (sd : SeqAt.shaped d = true) (se : SeqAt.shaped e = true) (ha : EvP R ta σ H (Rp K R d)) (hb : EvP R tb σ H (Rp K R e)) : EvP R (tOp (rNeD K) ta tb) σ H (Is (.bl (!PyData.eqv d e))) :=
  ev_op stb_rp ha hb fun x y H1 g hx hy Q q => ⟨d, e, hx H1 g.at.1, hy H1 g.at.1, sd, se, q _ H1 g.at rfl⟩
end
/-! ### statements: Hc the heap as it stands, H the heap of the facts -/
section
variable {K : PySem.W.Frag} {R : Res} {σ : L2.St} {H Hc : Hp} {te : TE} {t : TT} {P : VP} {D : Ends} {tu tw : TS} {v : V}
theorem s_ret (h : EvP R te σ H P) (g : Gr R H Hc) (k : ∀ v H1, Gr R H H1 → Gv R Hc H1 → P v H1 → D.rt v H1) : tRet te D σ Hc := h Hc g _ fun v H1 g1 p => k v H1 (g.trans g1) g1 p
theorem s_set {i : Nat} (h : EvP R te σ H P) (g : Gr R H Hc) (k : ∀ v H1, Gr R H H1 → Gv R Hc H1 → P v H1 → D.nx (σ.set i (some v)) H1) : tAsg te (gName i) D σ Hc := h Hc g _ fun v H1 g1 p => k v H1 (g.trans g1) g1 p
theorem s_drop (h : EvP R te σ H P) (g : Gr R H Hc) (k : ∀ v H1, Gr R H H1 → Gv R Hc H1 → P v H1 → D.nx σ H1) : tDrop te D σ Hc := h Hc g _ fun v H1 g1 p => k v H1 (g.trans g1) g1 p
theorem s_if {b : Bool} (h : EvT R t σ H b) (g : Gr R H Hc) (h1 : b = true → ∀ H1, Gr R H H1 → Gv R Hc H1 → tu D σ H1) (h2 : b = false → ∀ H1, Gr R H H1 → Gv R Hc H1 → tw D σ H1) : tIfS t tu tw D σ Hc := h Hc g _ fun H1 g1 => by
  cases b with
  | true => exact (if_pos rfl).mpr (h1 rfl H1 (g.trans g1) g1)
  | false => exact (if_neg Bool.false_ne_true).mpr (h2 rfl H1 (g.trans g1) g1)
theorem s_if1 {b : Bool} (h : EvT R t σ H b) (g : Gr R H Hc) (h1 : b = true → ∀ H1, Gr R H H1 → Gv R Hc H1 → tu D σ H1) (h2 : b = false → ∀ H1, Gr R H H1 → Gv R Hc H1 → D.nx σ H1) : tIfS t tu tNext D σ Hc := s_if h g h1 h2
end
end Fk

/-! Forkpolls: loops and comprehensions, calls by name. -/
namespace Fk
open PySem PySem.Spec PyProof.Rows L2
/-- one more object of which no fact speaks -/
def Res.add (R : Res) (p : Addr) : Res where
  D := R.D
  h := p :: R.h
  J := fun H => R.J H ∧ H p ≠ none
  at_ := fun H j x hx => by
    rcases hx with e | e
    · exact R.at_ H j.1 x (.inl e)
    · rcases List.mem_cons.mp e with e | e
      · rw [e]
        exact j.2
      · exact R.at_ H j.1 x (.inr e)
  st := fun H H' j k m => ⟨R.st H H' j.1 k fun x hx => m x (List.mem_cons_of_mem _ hx), m p List.mem_cons_self⟩
section
variable {R : Res} {H H' H1 : Hp} {p : Addr} {o : HO} {φ : Hp → Prop}
theorem add_into (hn : H p = none) (g : Gr (R.add p) H H') : Gr R H H' := ⟨g.1.1, fun x o e n m => g.2 x o e n fun z => by
  rcases List.mem_cons.mp z with q | q
  · rw [q, hn] at e
    cases e
  · exact m q⟩
theorem al_into (hn : H p = none) (h : Al R φ H) : Al (R.add p) φ H := fun H' g => h H' (add_into hn g)
theorem add_out (hp : H p = some o) (hd : p ∉ R.D ∧ p ∉ R.h) (g : Gr R H H') : Gr (R.add p) H H' := ⟨⟨g.1, by rw [g.2 p o hp hd.1 hd.2]; exact fun z => nomatch z⟩, fun x o e n m => g.2 x o e n fun z => m (List.mem_cons_of_mem _ z)⟩
theorem al_out (hp : H p = some o) (hd : p ∉ R.D ∧ p ∉ R.h) (h : Al (R.add p) φ H) : Al R φ H := fun H' g => h H' (add_out hp hd g)
theorem add_mut (hd : p ∉ R.D ∧ p ∉ R.h) (g : Gr (R.add p) H H') : Gr (R.add p) H (upd H' p o) := by
  have some_ne : ∀ x, (upd H' p o) x = some o ∨ (upd H' p o) x = H' x := fun x => by
    by_cases e : x = p
    · rw [e]; exact .inl upd_same
    · exact .inr (upd_ne e)
  refine ⟨⟨R.st H' _ g.1.1 (fun x hx => upd_ne fun z => hd.1 (by rw [← z]; exact hx)) fun x hx => by
      rcases some_ne x with q | q
      · rw [q]; exact fun z => nomatch z
      · rw [q]; exact R.at_ H' g.1.1 x (.inr hx), by rw [upd_same]; exact fun z => nomatch z⟩, fun x u e n m => ?_⟩
  have hx : x ≠ p := fun z => m (by rw [z]; exact List.mem_cons_self)
  rw [upd_ne hx]
  exact g.2 x u e n m
theorem add_new (j : R.J H) (hn : H p = none) : Gr (R.add p) H (upd H p o) := ⟨⟨(Gv.new j hn).1.1, by rw [upd_same]; exact fun z => nomatch z⟩, fun x u e _ _ => same_new hn x u e⟩
end
section
variable {R : Res} {H H' : Hp} {P : VP} {Ps Qs : List VP} {xs : List V} {v : V}
theorem psOk_snoc : ∀ {Ps : List VP} {xs : List V}, PsOk Ps xs H → P v H → PsOk (Ps ++ [P]) (xs ++ [v]) H := by
  intro Ps
  induction Ps with
  | nil => intro xs h hp; match xs, h with | [], _ => exact ⟨hp, True.intro⟩
  | cons A Ps ih => intro xs h hp; match xs, h with | x :: xs, ⟨h1, h2⟩ => exact ⟨h1, ih h2 hp⟩
theorem psOk_imp {f g : Nat → VP} {l : List Nat} (k : ∀ i, i ∈ l → ∀ v, f i v H → g i v H') : ∀ {xs : List V}, PsOk (l.map f) xs H → PsOk (l.map g) xs H' := by
  induction l with
  | nil => intro xs h; match xs, h with | [], _ => exact True.intro
  | cons i l ih => intro xs h; match xs, h with | x :: xs, ⟨h1, h2⟩ => exact ⟨k i List.mem_cons_self x h1, ih (fun j hj => k j (List.mem_cons_of_mem _ hj)) h2⟩
end
/-- a source of n turns -/
def EvW (R : Res) (wi : TI) (σ : L2.St) (H : Hp) (n : Nat) (Y : Nat → Hp → V → Hp → Prop) : Prop :=
  ∀ H1, Gr R H H1 → ∀ Z : It → Hp → Prop, (∀ J H2 G, Gv R H1 H2 → Walk J n G Y → Al R G H2 → Z J H2) → wi σ H1 Z
section
variable {K : PySem.W.Frag} {R : Res} {σ : L2.St} {H Hc : Hp} {tl te : TE} {tt : TT} {wi : TI} {g : TG} {xs : List V} {n : Nat} {Y : Nat → Hp → V → Hp → Prop} {vs : List Nat}
theorem ew_list (h : EvP R tl σ H (IsL K R xs)) : EvW R (iList K tl) σ H xs.length (YAt xs) := fun H1 a Z k => h H1 a _ fun v H2 a2 ⟨p, e, q⟩ => ⟨p, e, ⟨xs, q.now a2.1.1⟩, k _ H2 _ a2 walk_list q⟩
theorem ew_tup (h : EvP R tl σ H (IsU K R xs)) : EvW R (iTup K tl) σ H xs.length (YAt xs) := fun H1 a Z k => h H1 a _ fun v H2 a2 ⟨p, e, q⟩ => ⟨p, e, ⟨xs, q.now a2.1.1⟩, k _ H2 _ a2 walk_tup q⟩
theorem ew_str {z : Str} (h : EvP R tl σ H (Is (.str z))) : EvW R (iStr tl) σ H z.cps.size (fun i H v H' => H' = H ∧ ∃ c, z.cps[i]? = some c ∧ v = .str ⟨#[c]⟩) := fun H1 a Z k => h H1 a _ fun v H2 a2 e => ⟨z, e, k _ H2 _ a2 walk_str fun _ _ => True.intro⟩
theorem ew_range {ta : TA} {m : Int} (h : EvA R ta σ H [Is (.int m)]) (hm : 0 ≤ m ∧ m ≤ 100000) : EvW R (iRng1 ta) σ H m.toNat (YFn fun i => .int (i : Int)) := fun H1 a Z k => h H1 a _ fun vs H2 a2 ps => by
  have e := psOk1 ps
  refine ⟨m, e, by omega, by omega, k _ H2 _ a2 (walk_range.mono (fun _ _ => True.intro) fun i H x H' _ _ y => ?_) fun _ _ => True.intro⟩
  obtain ⟨y1, y2⟩ := y
  exact ⟨y1, y2.trans (congrArg V.int (Int.zero_add _))⟩
/-- what a comprehension gives -/
def gl (n : Nat) (f : Nat → Bool) (Pe : Nat → VP) : List VP := ((List.range n).filter f).map Pe
theorem gl_yes {f : Nat → Bool} {Pe : Nat → VP} (h : f n = true) : gl (n + 1) f Pe = gl n f Pe ++ [Pe n] := by
  unfold gl
  rw [List.range_succ, List.filter_append, List.map_append, List.filter_cons, if_pos h] <;> rfl
theorem gl_no {f : Nat → Bool} {Pe : Nat → VP} (h : f n = false) : gl (n + 1) f Pe = gl n f Pe := by
  unfold gl
  rw [List.range_succ, List.filter_append, List.map_append, List.filter_cons, if_neg (by rw [h]; decide), List.filter_nil, List.map_nil, List.append_nil]
theorem gl_len (f : Nat → Bool) (Pe : Nat → VP) : (gl n f Pe).length ≤ n := by
  unfold gl
  rw [List.length_map]
  exact Nat.le_trans (List.length_filter_le _ _) (Nat.le_of_eq (List.length_range))
/-- a list of one's own; the i-th is told by the i-th word -/
def LsOk (R : Res) (Ps : List VP) : VP := fun u H => ∃ p xs, u = .ref p ∧ H p = some (.lst xs) ∧ (p ∉ R.D ∧ p ∉ R.h) ∧ PsOk Ps xs H
theorem ev_lc {j : Nat} {Z : Nat → V → Prop} (Pe : Res → Nat → VP) (f : Nat → Bool) (hw : EvW R wi σ H n Y) (hn : n ≤ 1000) (hY : ∀ R' i H x H', Res.J R' H → i < n → Y i H x H' → Gv R' H H' ∧ Z i x)
    (hσ : ∀ x, wipe ((wipe σ vs).set j (some x)) vs = wipe σ vs) (st : ∀ R' i, Stb R' (Pe R' i)) (out : ∀ D i v H' xs, H' D = some (.lst xs) → (D ∉ R.D ∧ D ∉ R.h) → Pe (R.add D) i v H' → Pe R i v H')
    (he : ∀ D, H D = none → ∀ i x, i < n → Z i x → EvT (R.add D) tt ((wipe σ vs).set j (some x)) H (f i) ∧ (f i = true → EvP (R.add D) te ((wipe σ vs).set j (some x)) H (Pe (R.add D) i))) :
    EvP R (tLc wi (gName j) tt te vs) σ H (LsOk R (gl n f (Pe R))) := fun H0 a0 Q q => hw H0 a0 _ fun J H1 G a1 W hG => fun D hD => by
  have hd := off a1.1.1 hD
  have hD0 : H D = none := (a0.trans a1).back hD
  have ne : ∀ x, x ∈ R.h → x ≠ D := fun x hx z => hd.2 (by rw [← z]; exact hx)
  have base : ∀ {H2 : Hp}, Gr (R.add D) H1 H2 → Gr (R.add D) H H2 := fun {H2} g => ⟨g.1, fun x o e m k => g.2 x o ((a0.trans a1).2 x o e m fun z => k (List.mem_cons_of_mem _ z)) m k⟩
  refine lc_it W (fun i H' => (Gr (R.add D) H1 H' ∧ ∀ x, x ∈ R.h → H' x = H1 x) ∧ ∃ xs, H' D = some (.lst xs) ∧ PsOk (gl i f (Pe (R.add D))) xs H') ⟨⟨add_new a1.1.1 hD, fun x hx => upd_ne (ne x hx)⟩, [], upd_same, True.intro⟩ (fun i H' hi p => hG H' (add_into hD p.1.1)) (fun i x H2 H3 hi p y => ?_) fun H' p => ?_
  · obtain ⟨⟨g2, k2⟩, xs, hx, ps⟩ := p
    obtain ⟨g3, z⟩ := hY (R.add D) i H2 x H3 g2.1 hi y
    obtain ⟨et, ee⟩ := he D hD0 i x hi z
    refine ⟨hσ x, et H3 (base (g2.trans g3)) _ fun H4 g4 => ?_⟩
    have keep : ∀ {A B : Hp}, Gr (R.add D) A B → PsOk (gl i f (Pe (R.add D))) xs A → PsOk (gl i f (Pe (R.add D))) xs B := fun {A B} g h => psOk_imp (fun k _ v pv => st (R.add D) k v A B g pv) h
    have g24 := g3.trans g4
    have inh : ∀ x, x ∈ R.h → x ∈ (R.add D).h := fun x hx => List.mem_cons_of_mem _ hx
    have hD4 : H4 D = some (.lst xs) := (g24.2 D List.mem_cons_self).trans hx
    cases hf : f i with
    | false =>
      refine (if_neg Bool.false_ne_true).mpr ⟨⟨g2.trans g24, fun x hx => (g24.2 x (inh x hx)).trans (k2 x hx)⟩, xs, hD4, ?_⟩
      rw [gl_no hf]
      exact keep g24.1 ps
    | true =>
      refine (if_pos rfl).mpr (ee hf H4 (base (g2.trans g24)) _ fun v H5 g5 pv => ?_)
      have g25 := g24.trans g5
      have hD5 : H5 D = some (.lst xs) := (g25.2 D List.mem_cons_self).trans hx
      have ps5 := keep g25.1 ps
      have gm : Gr (R.add D) H5 (upd H5 D (.lst (xs ++ [v]))) := add_mut hd g5.at.1
      refine ⟨xs, hD5, ?_, ⟨(g2.trans g25).tr gm, fun x hx => (upd_ne (ne x hx)).trans ((g25.2 x (inh x hx)).trans (k2 x hx))⟩, _, upd_same, ?_⟩
      · have := psOk_len ps5
        have := gl_len (n := i) f (Pe (R.add D))
        exact small1000 (by omega)
      · rw [gl_yes hf]
        exact psOk_snoc (keep gm ps5) (st _ i v _ _ gm pv)
  · obtain ⟨⟨g2, k2⟩, xs, hx, ps⟩ := p
    have gr : Gv R H1 H' := ⟨add_into hD g2, k2⟩
    exact q _ _ (a1.trans gr) ⟨D, xs, rfl, hx, hd, psOk_imp (fun i _ v pv => out D i v H' xs hx hd pv) ps⟩
/-- .. of data -/
theorem ev_lcD {j : Nat} {Z : Nat → V → Prop} (d : Nat → PyData) (f : Nat → Bool) (hw : EvW R wi σ H n Y) (hn : n ≤ 1000) (hY : ∀ R' i H x H', Res.J R' H → i < n → Y i H x H' → Gv R' H H' ∧ Z i x)
    (hσ : ∀ x, wipe ((wipe σ vs).set j (some x)) vs = wipe σ vs)
    (he : ∀ D, H D = none → ∀ i x, i < n → Z i x → EvT (R.add D) tt ((wipe σ vs).set j (some x)) H (f i) ∧ (f i = true → EvP (R.add D) te ((wipe σ vs).set j (some x)) H (Rp K (R.add D) (d i)))) :
    EvP R (tLc wi (gName j) tt te vs) σ H (Rp K R (.list (((List.range n).filter f).map d))) :=
  ev_imp (ev_lc (fun R' i => Rp K R' (d i)) f hw hn hY hσ (fun _ _ => stb_rp) (fun D i v H' xs hx hd h => al_out hx hd h) he) fun v H' g p => by
    obtain ⟨a, xs, rfl, ha, hd, ps⟩ := p
    intro H2 g2
    have ps' : PsOk ((((List.range n).filter f).map d).map (Rp K R)) xs H' := by
      rw [List.map_map]
      exact ps
    exact .lst (.inl (.inl (g2.2 a _ ha hd.1 hd.2))) (dpAll_of ps' H2 g2)
/-- .. of flat things -/
theorem psIs {l : List V} : ∀ {xs : List V}, PsOk (l.map Is) xs H → xs = l := by
  induction l with
  | nil => intro xs h; match xs, h with | [], _ => rfl
  | cons a l ih => intro xs h; match xs, h with | x :: xs, ⟨h1, h2⟩ => rw [ih h2, show x = a from h1]
theorem ev_lcV {j : Nat} {Z : Nat → V → Prop} (d : Nat → V) (f : Nat → Bool) (hw : EvW R wi σ H n Y) (hn : n ≤ 1000) (hY : ∀ R' i H x H', Res.J R' H → i < n → Y i H x H' → Gv R' H H' ∧ Z i x)
    (hσ : ∀ x, wipe ((wipe σ vs).set j (some x)) vs = wipe σ vs)
    (he : ∀ D, H D = none → ∀ i x, i < n → Z i x → EvT (R.add D) tt ((wipe σ vs).set j (some x)) H (f i) ∧ (f i = true → EvP (R.add D) te ((wipe σ vs).set j (some x)) H (Is (d i)))) :
    EvP R (tLc wi (gName j) tt te vs) σ H (fun u H => ∃ p, u = .ref p ∧ H p = some (.lst (((List.range n).filter f).map d)) ∧ (p ∉ R.D ∧ p ∉ R.h)) :=
  ev_imp (ev_lc (fun R' i => Is (d i)) f hw hn hY hσ (fun _ _ => stb_is) (fun D i v H' xs hx hd h => h) he) fun v H' g p => by
    obtain ⟨a, xs, rfl, ha, hd, ps⟩ := p
    have ps' : PsOk ((((List.range n).filter f).map d).map Is) xs H' := by
      rw [List.map_map]
      exact ps
    rw [psIs ps'] at ha
    exact ⟨a, rfl, ha, hd⟩
theorem isL_of {p : Addr} (h : H p = some (.lst xs)) (hd : p ∉ R.D ∧ p ∉ R.h) : IsL K R xs (.ref p) H := ⟨p, rfl, fun H' g => .inl (.inl (g.2 p _ h hd.1 hd.2))⟩
theorem isU_of {p : Addr} (h : H p = some (.tup xs)) (hd : p ∉ R.D ∧ p ∉ R.h) : IsU K R xs (.ref p) H := ⟨p, rfl, fun H' g => .inl (.inl (g.2 p _ h hd.1 hd.2))⟩
theorem yAt_ok : ∀ (R' : Res) i (H : Hp) x H', R'.J H → i < n → YAt xs i H x H' → Gv R' H H' ∧ xs[i]? = some x := fun R' i H x H' j _ y => ⟨by rw [y.1]; exact Gv.refl j, y.2⟩
theorem yFn_ok {f : Nat → V} : ∀ (R' : Res) i (H : Hp) x H', R'.J H → i < n → YFn f i H x H' → Gv R' H H' ∧ x = f i := fun R' i H x H' j _ y => ⟨by rw [y.1]; exact Gv.refl j, y.2⟩
theorem yStr_ok {z : Str} : ∀ (R' : Res) i (H : Hp) v H', R'.J H → i < n → (H' = H ∧ ∃ c, z.cps[i]? = some c ∧ v = .str ⟨#[c]⟩) → Gv R' H H' ∧ ∃ c, z.cps[i]? = some c ∧ v = V.str ⟨#[c]⟩ := fun R' i H x H' j _ y => ⟨by rw [y.1]; exact Gv.refl j, y.2⟩
theorem et_yes {H : Hp} {σ : L2.St} : EvT R tYes σ H true := fun H1 g Q q => q H1 g.at
/-- a for -/
theorem s_for {tb : TS} {D : Ends} {g : TG} (hw : EvW R wi σ H n Y) (gc : Gr R H Hc)
    (k : ∀ H1, Gr R H H1 → Gv R Hc H1 → ∃ Pv : Nat → L2.St → Hp → Prop, Pv 0 σ H1 ∧ (∀ i σ' H', i ≤ n → Pv i σ' H' → Gr R H1 H') ∧
      (∀ i x σ' H' H2, i < n → Pv i σ' H' → Y i H' x H2 → g x σ' H2 fun σ2 H3 => tb { D with nx := Pv (i + 1), ct := Pv (i + 1), bk := D.nx } σ2 H3) ∧ ∀ σ' H', Pv n σ' H' → D.nx σ' H') :
    tFor wi g tb D σ Hc := hw Hc gc _ fun J H1 G a1 W hG => by
  obtain ⟨Pv, h0, h1, h2, h3⟩ := k H1 (gc.trans a1) a1
  exact for_it W Pv h0 (fun i σ' H' hi p => hG H' (h1 i σ' H' hi p)) h2 h3
end
end Fk

/-! Forkpolls: defs and classes by their names. -/
namespace Fk
open PySem PySem.Spec PyProof.Rows L2
/-- the def x holds sp -/
def CalX (P : Program) (w : World) (K : PySem.W.Frag) (mg : Str → Option Value) (base : Heap) (CX : CXT) (k : Nat) (x : Str) (sp : Sp) : Prop :=
  ∃ (f : Addr) (fd : FuncData) (ps : List Str), FnOk P w K mg base CX k f fd ps sp ∧ mg x = some (.ref f) ∧ PySem.W.keepIn K (.ref f) = true ∧ Binds K fd ps []
/-- the class x makes an instance of the class at C by an __init__ that holds sp -/
def MakX (P : Program) (w : World) (K : PySem.W.Frag) (mg : Str → Option Value) (base : Heap) (CX : CXT) (k : Nat) (x : Str) (C : Addr) (sp : Sp) : Prop :=
  ∃ (f : Addr) (fd : FuncData) (ps : List Str), FnOk P w K mg base CX k f fd ps sp ∧ mg x = some (.ref C) ∧ Mk K C f ∧ Binds K fd ps []
section
variable {P : Program} {w : World} {K : PySem.W.Frag} {mg : Str → Option Value} {base : Heap} {CX : CXT} {k j : Nat} {x qual : Str} {st : Stmt} {f : Addr} {ps : List Str} {sp : Sp}
theorem cal_of (d : mg x = some (.ref f) ∧ ∃ fd, Fun K x qual st f fd) (ok : ∀ fd, Fun K x qual st f fd → FnOk P w K mg base CX k f fd ps sp)
    (b : ∀ (kV doc pm : Value) (an : Option Addr) (cdv ct : Value) (us : List Value), us.length = ps.length → bindArgs (PySem.W.fnOf x qual (defArgs st) (defBody st) (defScope st) .none kV doc pm an cdv ct) ⟨us, []⟩ = pure (ps.zip us)) : CalX P w K mg base CX k x sp := by
  obtain ⟨g, fd, F⟩ := d
  exact ⟨f, fd, ps, ok fd F, g, F.kp, F.binds b⟩
theorem mak_of {C : Addr} {m : Str} (g : mg x = some (.ref C)) (M : Mk K C f) (d : ∃ fd, Fun K m qual st f fd) (ok : ∀ fd, Fun K m qual st f fd → FnOk P w K mg base CX k f fd ps sp)
    (b : ∀ (kV doc pm : Value) (an : Option Addr) (cdv ct : Value) (us : List Value), us.length = ps.length → bindArgs (PySem.W.fnOf m qual (defArgs st) (defBody st) (defScope st) .none kV doc pm an cdv ct) ⟨us, []⟩ = pure (ps.zip us)) : MakX P w K mg base CX k x C sp := by
  obtain ⟨fd, F⟩ := d
  exact ⟨f, fd, ps, ok fd F, g, M, F.binds b⟩
end
section
variable {X : Cx} {CX : CXT} {k j : Nat} {x : Str} {C : Addr} {sp : Sp} {E : XK} {p pos : Pos} {e : Expr} {es : List Expr} {t : TA}
theorem pe_cal (c : CalX X.prog X.w X.K X.mg X.base CX k x sp) (hr : Room j X.A) (hk : k ≤ j) (hx : Passes CX X E) (ha : PA X (e :: es) t) (hg : Gl X x := by rfl) (hdb : (x == ("__debug__" : Str)) = false := by decide)
    (he : starEach (e :: es) X.env = (false, eval e X.env) :: starEach es X.env := by rfl) (hpl : (backTo pos (starEach es X.env)).any (·.1) = false := by rfl) : PE X (.Call (.Name x p) (e :: es) [] pos) (tCall sp [] E t) := by
  obtain ⟨f, fd, ps, F, g, kp, b⟩ := c
  exact pe_call F (hr.mono hk) hg g kp b .nil hx ha hdb he hpl
theorem pe_cal0 (c : CalX X.prog X.w X.K X.mg X.base CX k x sp) (hr : Room j X.A) (hk : k ≤ j) (hx : Passes CX X E) (hg : Gl X x := by rfl) (hdb : (x == ("__debug__" : Str)) = false := by decide) : PE X (.Call (.Name x p) [] [] pos) (tCall sp [] E tNil) := by
  obtain ⟨f, fd, ps, F, g, kp, b⟩ := c
  exact pe_call0 F (hr.mono hk) hg g kp b .nil hx hdb
theorem pe_mkc (c : MakX X.prog X.w X.K X.mg X.base CX k x C sp) (hr : Room j X.A) (hk : k + 1 ≤ j) (hx : Passes CX X E) (ha : PA X (e :: es) t) (hg : Gl X x := by rfl) (hdb : (x == ("__debug__" : Str)) = false := by decide)
    (he : starEach (e :: es) X.env = (false, eval e X.env) :: starEach es X.env := by rfl) (hpl : (backTo pos (starEach es X.env)).any (·.1) = false := by rfl) : PE X (.Call (.Name x p) (e :: es) [] pos) (tMake C sp [] E t) := by
  obtain ⟨f, fd, ps, F, g, M, b⟩ := c
  exact pe_make M F (hr.mono hk) hg g b .nil hx ha hdb he hpl
end
/-- an own class whose instances are plain -/
structure OwnC (K : PySem.W.Frag) (C : Addr) : Prop where
  pg : PySem.W.plainGet K C Str.empty = true
  hd : PySem.W.hasDictIn K C = true
  po : PySem.W.plainOver K C = true
  sa : PySem.W.findIn K (.ref C) "__setattr__" = some (some (.builtin "object.__setattr__"))
  ma : PySem.W.makesIn K C = true
  kp : PySem.W.keepIn K (.ref C) = true
  ha : PySem.W.findIn K (.ref C) "__class__" = some (some (.builtin "object.__class__"))
  ne : PySem.W.findIn K (.ref C) "__ne__" = some (some (.builtin "object.__ne__"))
  mo : PySem.W.mroIn K C (.type "object") = some true
  ic : PySem.W.isClsIn K C = true
  ty : PySem.W.typeIn K (.ref C) = some (.type "type")
  me : PySem.W.subIn K (.ref C) (.ref C) = some true
/-- of the classes' own descriptor -/
structure ObjC (K : PySem.W.Frag) : Prop where
  gt : PySem.W.specialIn K (.builtin "object.__class__") "__get__" = some (some (.builtin "getset_descriptor.__get__"))
  tk : PySem.W.takesIn K (.builtin "object.__class__") = some true
section
variable {K : PySem.W.Frag} {C D : Addr} {t : Value} {b : Bool} {H : Hp}
theorem OwnC.cls (c : OwnC K C) : Cls K C := ⟨c.pg, c.hd, c.po, c.sa⟩
theorem OwnC.typ (c : OwnC K C) (o : ObjC K) {a dx : Addr} {fs : List (Str × V)} (e : H a = some (.ins C dx fs)) : TyX K H (.ref a) (.ref C) := .base (.ins e c.cls c.ha o.gt o.tk c.mo)
/-- isinstance(.., C): the answer -/
theorem OwnC.kit (c : OwnC K C) (h : PySem.W.subIn K t (.ref C) = some b) : PySem.W.kitOne K t (.ref C) = some b := by
  unfold PySem.W.kitOne
  by_cases e : (t == Value.ref C) = true
  · rw [if_pos e]
    have e' : t = .ref C := beq_iff_eq.mp e
    subst e'
    rw [c.me] at h
    exact h
  · rw [if_neg e]
    have z : ((PySem.W.clsIn K C).isSome && PySem.W.typeIn K (.ref C) == some (.type "type")) = true := by
      have z1 : (PySem.W.clsIn K C).isSome = true := c.ic
      rw [z1, c.ty]
      rfl
    show (if ((PySem.W.clsIn K C).isSome && PySem.W.typeIn K (.ref C) == some (.type "type")) = true then PySem.W.subIn K t (.ref C) else none) = some b
    rw [if_pos z]
    exact h
/-- isinstance(an instance, a built-in class) -/
theorem kit_ownB {T : String} (hm : PySem.W.kitMeta T = true) (h : PySem.W.subIn K (.ref C) (.type T) = some b) : PySem.W.kitOne K (.ref C) (.type T) = some b := by
  unfold PySem.W.kitOne
  rw [if_neg (by simp)]
  show (if PySem.W.kitMeta T = true then PySem.W.subIn K (.ref C) (.type T) else none) = some b
  rw [if_pos hm]
  exact h
theorem notFirst_of (h : PySem.W.subIn K t (.ref C) = some false) : PySem.W.notFirst K C t = true := by
  unfold PySem.W.notFirst
  rw [h]
  simp
theorem notFirst_me : PySem.W.notFirst K C (.ref C) = true := by
  unfold PySem.W.notFirst
  simp
end
/-! ### flat values -/
def isI : V → Bool
  | .int _ => true
  | _ => false
def isB : V → Bool
  | .bl _ => true
  | _ => false
def isS : V → Bool
  | .str _ => true
  | _ => false
def tyN : V → String
  | .bl _ => "bool"
  | .int _ => "int"
  | .str _ => "str"
  | _ => "NoneType"
section
variable {K : PySem.W.Frag} {H : Hp} {v : V}
theorem ty_flat (h : flatV v = true) : TyX K H v (.type (tyN v)) := by
  cases v with
  | non => exact .base .non
  | bl b => exact .base (.bl b)
  | int i => exact .base (.int i)
  | str z => exact .base (.str z)
  | _ => exact absurd h Bool.false_ne_true
theorem kit_int (h : flatV v = true) : PySem.W.kitOne K (.type (tyN v)) (.type "int") = some (isI v || isB v) := by
  cases v with
  | non => exact kit_ty (show kitB "NoneType" "int" = some false by decide +kernel)
  | bl b => exact kit_ty (show kitB "bool" "int" = some true by decide +kernel)
  | int i => exact kit_ty (show kitB "int" "int" = some true by decide +kernel)
  | str z => exact kit_ty (show kitB "str" "int" = some false by decide +kernel)
  | _ => exact absurd h Bool.false_ne_true
theorem kit_bool (h : flatV v = true) : PySem.W.kitOne K (.type (tyN v)) (.type "bool") = some (isB v) := by
  cases v with
  | non => exact kit_ty (show kitB "NoneType" "bool" = some false by decide +kernel)
  | bl b => exact kit_ty (show kitB "bool" "bool" = some true by decide +kernel)
  | int i => exact kit_ty (show kitB "int" "bool" = some false by decide +kernel)
  | str z => exact kit_ty (show kitB "str" "bool" = some false by decide +kernel)
  | _ => exact absurd h Bool.false_ne_true
theorem kit_str (h : flatV v = true) : PySem.W.kitOne K (.type (tyN v)) (.type "str") = some (isS v) := by
  cases v with
  | non => exact kit_ty (show kitB "NoneType" "str" = some false by decide +kernel)
  | bl b => exact kit_ty (show kitB "bool" "str" = some false by decide +kernel)
  | int i => exact kit_ty (show kitB "int" "str" = some false by decide +kernel)
  | str z => exact kit_ty (show kitB "str" "str" = some true by decide +kernel)
  | _ => exact absurd h Bool.false_ne_true
end
/-! ### texts -/
def sp1 : Str := " "
def letters (z : Str) : Bool := z.cps.toList.all fun c => decide (97 ≤ c) && decide (c ≤ 122)
def keyws : List V := [.str "any", .str "by", .str "one", .str "same", .str "to"]
def nameS (z : Str) : Bool := !inV (.str z) keyws && (decide (1 ≤ z.length) && decide (z.length ≤ 4) && letters z)
def nameV : V → Bool
  | .str z => nameS z
  | _ => false

section
variable {K : PySem.W.Frag} {R : Res} {σ : L2.St} {H : Hp} {ta tb te : TE} {z y : Str}
theorem ev_lenS (ha : EvP R ta σ H (Is (.str z))) (hz : z.length ≤ 100000) : EvP R (tCB (fun xs H Q => ∃ z : Str, xs = [.str z] ∧ z.length ≤ sizeLine ∧ Q (.int z.length) H) (tCons ta tNil)) σ H (Is (.int z.length)) := ev_cb (ea_is ha ea_nil) fun vs H1 g ps Q q => by
  cases psOk1 ps
  exact ⟨z, rfl, Nat.le_trans hz (by decide), q _ H1 g.at rfl⟩
/-- len of a list or tuple -/
theorem ev_len {xs : List V} (ha : EvP R ta σ H (fun u H => ∃ p, u = .ref p ∧ (SqL K H p xs ∨ SqT K H p xs))) : EvP R (tCB (fun vs H Q => ∃ p ys, vs = [.ref p] ∧ (SqL K H p ys ∨ SqT K H p ys) ∧ Q (.int ys.length) H) (tCons ta tNil)) σ H (Is (.int (xs.length : Int))) := fun H1 g Q q =>
  ha H1 g _ fun v H2 g2 ⟨p, e, h⟩ => ⟨p, xs, by rw [e], h, q _ H2 g2 rfl⟩
theorem ev_all {bs : List Bool} (ha : EvP R ta σ H (fun u H => ∃ p, u = .ref p ∧ SqL K H p (bs.map V.bl))) : EvP R (tCB (rAll K) (tCons ta tNil)) σ H (Is (.bl (bs.all id))) := fun H1 g Q q =>
  ha H1 g _ fun v H2 g2 ⟨p, e, h⟩ => ⟨p, bs, by rw [e], h, q _ H2 g2 rfl⟩
theorem rv_le {a b : Str} (j : R.J H) : RvP R (fun x y H Q => ∃ i j : Str, x = .str i ∧ y = .str j ∧ Q (.bl (!decide (j.cps.toList < i.cps.toList))) H) (.str a) (.str b) H (Is (.bl (!decide (b.cps.toList < a.cps.toList)))) := fun Q q => ⟨a, b, rfl, rfl, q _ H (Gv.refl j) rfl⟩
theorem filter_yes (n : Nat) : (List.range n).filter (fun _ => true) = List.range n := List.filter_eq_self.mpr fun _ _ => rfl
theorem lt_one (a b : Nat) : decide (([a] : List Nat) < [b]) = decide (a < b) := by
  rw [Bool.eq_iff_iff, decide_eq_true_iff, decide_eq_true_iff, List.cons_lt_cons_iff]
  constructor
  · rintro (h | ⟨_, h⟩)
    · exact h
    · exact absurd h (List.not_lt_nil _)
  · exact Or.inl
theorem az_lo (c : Nat) : (!decide ((⟨#[c]⟩ : Str).cps.toList < ("a" : Str).cps.toList)) = decide (97 ≤ c) := by
  show (!decide ([c] < [97])) = decide (97 ≤ c)
  rw [lt_one]
  by_cases h : 97 ≤ c
  · rw [decide_eq_true h, decide_eq_false (by omega)]; rfl
  · rw [decide_eq_false h, decide_eq_true (by omega)]; rfl
theorem az_hi (c : Nat) : (!decide (("z" : Str).cps.toList < (⟨#[c]⟩ : Str).cps.toList)) = decide (c ≤ 122) := by
  show (!decide ([122] < [c])) = decide (c ≤ 122)
  rw [lt_one]
  by_cases h : c ≤ 122
  · rw [decide_eq_true h, decide_eq_false (by omega)]; rfl
  · rw [decide_eq_false h, decide_eq_true (by omega)]; rfl
theorem letters_is (z : Str) : letters z = ((List.range z.cps.size).map fun i => (decide (97 ≤ z.cps.getD i 0) && decide (z.cps.getD i 0 ≤ 122))).all id := by
  unfold letters
  rw [List.all_map, Bool.eq_iff_iff, List.all_eq_true, List.all_eq_true]
  constructor
  · intro h i hi
    have hi' : i < z.cps.size := List.mem_range.mp hi
    have := h z.cps[i] (by simp)
    simpa [Array.getD, hi'] using this
  · intro h c hc
    obtain ⟨i, hi, rfl⟩ := List.getElem_of_mem hc
    have hi' : i < z.cps.size := by simpa using hi
    have := h i (List.mem_range.mpr hi')
    simpa [Array.getD, hi'] using this
theorem ev_chainI {tc : TE} {p q : Int → Int → Bool} {i j k : Int} (ha : EvP R ta σ H (Is (.int i))) (hb : EvP R tb σ H (Is (.int j))) (hc : EvP R tc σ H (Is (.int k))) :
    EvP R (tChain (rI0 fun i j => .bl (p i j)) (rI0 fun i j => .bl (q i j)) ta tb tc) σ H (Is (.bl (p i j && q j k))) := ev_chain ha hb hc (fun H1 g => rv_i0 g.1) (fun H1 g => rv_i0 g.1)
/-- a tuple, a list of flat things, new -/
theorem ev_tupV {t : TA} {vs : List V} (h : EvA R t σ H (vs.map Is)) (hl : vs.length ≤ 1000) : EvP R (tTup t) σ H (fun u H => ∃ p, u = .ref p ∧ H p = some (.tup vs) ∧ (p ∉ R.D ∧ p ∉ R.h)) := fun H1 g Q q =>
  h H1 g _ fun xs H2 g2 ps => by
    cases psIs ps
    exact ⟨small hl, fun p hp => q _ _ (g2.trans (Gv.new g2.1.1 hp)) ⟨p, rfl, upd_same, off g2.1.1 hp⟩⟩
theorem ev_lstV {t : TA} {vs : List V} (h : EvA R t σ H (vs.map Is)) (hl : vs.length ≤ 1000) : EvP R (tLst t) σ H (fun u H => ∃ p, u = .ref p ∧ H p = some (.lst vs) ∧ (p ∉ R.D ∧ p ∉ R.h)) := fun H1 g Q q =>
  h H1 g _ fun xs H2 g2 ps => by
    cases psIs ps
    exact ⟨small hl, fun p hp => q _ _ (g2.trans (Gv.new g2.1.1 hp)) ⟨p, rfl, upd_same, off g2.1.1 hp⟩⟩
theorem ev_strI {i : Int} (ha : EvP R ta σ H (Is (.int i))) (hz : i.natAbs.log2 < 1920) : EvP R (tCB (fun xs H Q => ∃ i, xs = [.int i] ∧ i.natAbs.log2 < 1920 ∧ Q (.str (toString i)) H) (tCons ta tNil)) σ H (Is (.str (toString i))) := ev_cb (ea_is ha ea_nil) fun vs H1 g ps Q q => by
  cases psOk1 ps
  exact ⟨i, rfl, hz, q _ H1 g.at rfl⟩
end
/-! ### data stand while their objects stand -/
section
variable {K : PySem.W.Frag} {H H' : Hp}
mutual
theorem dp_same (e : Same H H') : ∀ (d : PyData) (v : V), Dp K H v d → Dp K H' v d
  | .none, _, h => by cases h; exact .non
  | .bool b, _, h => by cases h; exact .bl b
  | .int i, _, h => by cases h; exact .int i
  | .str z, _, h => by cases h; exact .str z
  | .list ds, _, h => by
    cases h with
    | lst h1 h2 => exact .lst (SqL.ext h1 e) (dpAll_same e ds _ h2)
  | .tuple ds, _, h => by
    cases h with
    | tup h1 h2 => exact .tup (SqT.ext h1 e) (dpAll_same e ds _ h2)
  | .dict _, _, h => by cases h
theorem dpAll_same (e : Same H H') : ∀ (ds : List PyData) (vs : List V), DpAll K H vs ds → DpAll K H' vs ds
  | [], _, h => by cases h; exact .nil
  | d :: ds, _, h => by
    cases h with
    | cons h1 h2 => exact .cons (dp_same e d _ h1) (dpAll_same e ds _ h2)
end
theorem rp_free {v : V} {d : PyData} (h : Dp K H v d) : Rp K Free d v H := fun H' g => dp_same g.free d v h
theorem dpAll_get {ds : List PyData} : ∀ {xs : List V} {i : Nat} {x : V}, DpAll K H xs ds → xs[i]? = some x → ∃ d, ds[i]? = some d ∧ Dp K H x d := by
  induction ds with
  | nil => intro xs i x h e; cases h; simp at e
  | cons d ds ih =>
    intro xs i x h e
    cases h with
    | cons h1 h2 =>
      cases i with
      | zero => simp at e; subst e; exact ⟨d, rfl, h1⟩
      | succ i => exact ih h2 (by simpa using e)
theorem dp_tup {v : V} {ds : List PyData} (h : Dp K H v (.tuple ds)) : ∃ a xs, v = .ref a ∧ SqT K H a xs ∧ DpAll K H xs ds := by
  cases h with
  | tup h1 h2 => exact ⟨_, _, rfl, h1, h2⟩
theorem dp_lst {v : V} {ds : List PyData} (h : Dp K H v (.list ds)) : ∃ a xs, v = .ref a ∧ SqL K H a xs ∧ DpAll K H xs ds := by
  cases h with
  | lst h1 h2 => exact ⟨_, _, rfl, h1, h2⟩
theorem dp_str {v : V} {z : Str} (h : Dp K H v (.str z)) : v = .str z := by cases h; rfl
theorem dp_int {v : V} {i : Int} (h : Dp K H v (.int i)) : v = .int i := by cases h; rfl
theorem dp_bool {v : V} {b : Bool} (h : Dp K H v (.bool b)) : v = .bl b := by cases h; rfl
theorem al_free {φ : Hp → Prop} (h : ∀ H', Same H H' → φ H') : Al Free φ H := fun H' g => h H' g.free
end
end Fk

/-! Forkpolls: what rows are. -/
namespace Fk
open PySem PySem.Spec PyProof.Rows L2
inductive RowD where
  | step (kind old then_ : Str) (add : Int)
  | join (here there then_ : Str) (add : Int)
  | part (old left right : Str) (add more : Int)
def numS (i : Int) : Str := (toString i : String)
def RowD.words : RowD → List Str
  | .step k o t a => [k, o, "to", t, "by", numS a]
  | .join h o t a => ["join", h, o, "to", t, "by", numS a]
  | .part o l r a m => ["part", o, "to", l, r, "by", numS a, numS m]
def RowD.text (r : RowD) : Str := Txt.join " " r.words
def RowD.flds (t : Addr) : RowD → List (Str × V)
  | .step k o n a => [("words", .ref t), ("kind", .str k), ("old", .str o), ("then", .str n), ("add", .int a)]
  | .join h o n a => [("words", .ref t), ("here", .str h), ("there", .str o), ("then", .str n), ("add", .int a)]
  | .part o l r a m => [("words", .ref t), ("old", .str o), ("left", .str l), ("right", .str r), ("add", .int a), ("more", .int m)]
def kindsV : List V := [.str "yes", .str "no", .str "late yes", .str "late no", .str "word", .str "strike", .str "back", .str "cut"]
def nameOr (z : Str) (ws : List V) : Bool := nameS z || inV (.str z) ws
def addOk (i : Int) : Bool := decide (-3 ≤ i) && decide (i ≤ 3)
def RowD.ok : RowD → Bool
  | .step k o t a => inV (.str k) kindsV && nameOr o [.str "any"] && nameOr t [.str "same"] && addOk a
  | .join h o t a => nameOr h [.str "any"] && nameOr o [.str "any"] && nameOr t [.str "one", .str "other"] && addOk a
  | .part o l r a m => nameOr o [.str "any"] && nameOr l [.str "same"] && nameOr r [.str "same"] && addOk a && addOk m
/-- texts of its parts are short -/
def RowD.small : RowD → Prop
  | .step k o t _ => k.length ≤ 1000 ∧ o.length ≤ 1000 ∧ t.length ≤ 1000
  | .join h o t _ => h.length ≤ 1000 ∧ o.length ≤ 1000 ∧ t.length ≤ 1000
  | .part o l r _ _ => o.length ≤ 1000 ∧ l.length ≤ 1000 ∧ r.length ≤ 1000
section
variable {K : PySem.W.Frag} {R : Res} {σ : L2.St} {H : Hp} {ta tb te : TE}
theorem ev_tupU {t : TA} {vs : List V} (h : EvA R t σ H (vs.map Is)) (hl : vs.length ≤ 1000) : EvP R (tTup t) σ H (IsU K R vs) := ev_imp (ev_tupV h hl) fun u H' _ ⟨p, e, hp, hd⟩ => e ▸ isU_of hp hd
theorem add_log {a : Int} (h : addOk a = true) : a.natAbs.log2 < 1920 := by
  obtain ⟨h1, h2⟩ := Bool.and_eq_true_iff.mp h
  have h1' : -3 ≤ a := of_decide_eq_true h1
  have h2' : a ≤ 3 := of_decide_eq_true h2
  have : a.natAbs ≤ 3 := by omega
  have h3 : a.natAbs.log2 ≤ 3 := Nat.le_trans (Nat.log2_le_self _) this
  omega
theorem psOk_2 {x : V} {P : VP} {vs : List V} (h : PsOk [Is x, P] vs H) : ∃ v, vs = [x, v] ∧ P v H := by
  match vs, h with
  | [a, b], ⟨e1, e2, _⟩ => cases e1; exact ⟨b, rfl, e2⟩
/-- a new tuple of these -/
def TupN (R : Res) (vs : List V) : VP := fun u H => ∃ p, u = .ref p ∧ H p = some (.tup vs) ∧ (p ∉ R.D ∧ p ∉ R.h)
theorem stb_tupN {vs : List V} : Stb R (TupN R vs) := fun _ _ _ g ⟨p, e, h, hd⟩ => ⟨p, e, g.2 p _ h hd.1 hd.2, hd⟩
theorem ev_tupN {t : TA} {vs : List V} (h : EvA R t σ H (vs.map Is)) (hl : vs.length ≤ 1000) : EvP R (tTup t) σ H (TupN R vs) := ev_tupV h hl
/-- a new tuple of these, new at H0, too -/
def TupW (R : Res) (H0 : Hp) (vs : List V) : VP := fun u H => ∃ p, u = .ref p ∧ H p = some (.tup vs) ∧ (p ∉ R.D ∧ p ∉ R.h) ∧ H0 p = none
theorem stb_tupW {H0 : Hp} {vs : List V} : Stb R (TupW R H0 vs) := fun _ _ _ g ⟨p, e, h, hd, hn⟩ => ⟨p, e, g.2 p _ h hd.1 hd.2, hd, hn⟩
theorem ev_tupW {t : TA} {vs : List V} (h : EvA R t σ H (vs.map Is)) (hl : vs.length ≤ 1000) : EvP R (tTup t) σ H (TupW R H vs) := fun H1 g Q q =>
  h H1 g _ fun xs H2 g2 ps => by
    cases psIs ps
    exact ⟨small hl, fun p hp => q _ _ (g2.trans (Gv.new g2.1.1 hp)) ⟨p, rfl, upd_same, off g2.1.1 hp, (g.trans g2).back hp⟩⟩
theorem s_off {t : TA} {C : Addr} {sp : Sp} {E : XK} {D : Ends} {Ps : List VP} {Hc : Hp} (h : EvA R t σ H Ps) (g : Gr R H Hc) (k : ∀ vs H2, Gr R H H2 → Gv R Hc H2 → PsOk Ps vs H2 → sp vs H2 (fun _ H3 => D.nx σ H3) E) : tDrop (tOff C sp E (tC (.ref C)) t) D σ Hc :=
  ⟨rfl, h Hc g _ fun vs H2 g2 ps => k vs H2 (g.trans g2) g2 ps⟩
/-- self.f = a slot's value -/
theorem s_fld {D : Ends} {i : Nat} {f : Str} {a C dx : Addr} {fs : List (Str × V)} {v : V} (h0 : σ[0]? = some (some (.ref a))) (hi : σ[i]? = some (some v)) (ha : H a = some (.ins C dx fs)) (hc : Cls K C) (hn : NoAttr K C f) (hl : fs.length < 1000) (k : D.nx σ (upd H a (.ins C dx (putF f v fs)))) :
    sFld K (tVar 0) (tVar i) f D σ H := ⟨v, hi, .ref a, h0, a, C, dx, fs, rfl, ha, hc, hn, hl, k⟩
theorem ev_fld {a C dx : Addr} {fs : List (Str × V)} {v : V} {f : Str} (h : EvP R te σ H (Is (.ref a))) (ha : Al R (fun H' => H' a = some (.ins C dx fs)) H) (hc : Cls K C) (hn : NoAttr K C f) (hl : fs.lookup f = some v) : EvP R (tFld K te f) σ H (Is v) := fun H1 g Q q =>
  h H1 g _ fun u H2 g2 e => ⟨a, C, dx, fs, v, e, ha H2 (g.trans g2), hc, hn, hl, q v H2 g2 rfl⟩
abbrev rJoin (K : PySem.W.Frag) : V → List V → Hp → VK → Prop := fun x xs H Q => ∃ a p, ∃ ys : List Str, x = .str a ∧ xs = [.ref p] ∧ (SqL K H p (ys.map V.str) ∨ SqT K H p (ys.map V.str)) ∧ (ys.map (·.length)).sum + ys.length * a.length ≤ 16777216 ∧ Q (.str (Txt.join a ys)) H
theorem ev_join {z : Str} {ys : List Str} (ho : EvP R te σ H (Is (.str z))) (h : EvP R ta σ H (fun u H => ∃ p, u = .ref p ∧ (SqL K H p (ys.map V.str) ∨ SqT K H p (ys.map V.str)))) (hz : (ys.map (·.length)).sum + ys.length * z.length ≤ 16777216) :
    EvP R (tBM K "str" (rJoin K) te (tCons ta tNil)) σ H (Is (.str (Txt.join z ys))) := fun H1 g Q q =>
  ho H1 g _ fun x H2 g2 e => by
    cases e
    exact ⟨rfl, h H2 (g.trans g2) _ fun u H3 g3 ⟨p, e, hp⟩ => ⟨z, p, ys, rfl, by rw [e], hp, hz, q _ H3 (g2.trans g3) rfl⟩⟩
theorem dec_str' {a b : Str} : decide (V.str a = V.str b) = decide (a = b) := by
  by_cases h : a = b
  · subst h; simp
  · rw [decide_eq_false h, decide_eq_false (fun e => h (V.str.inj e))]
/-- a row as it may be made -/
def RowD.good (r : RowD) : Prop := r.ok = true ∧ r.small
theorem numS_len {a : Int} (h : addOk a = true) : (numS a).length ≤ 2 := by
  obtain ⟨h1, h2⟩ := Bool.and_eq_true_iff.mp h
  have h1' : -3 ≤ a := of_decide_eq_true h1
  have h2' : a ≤ 3 := of_decide_eq_true h2
  have : a = -3 ∨ a = -2 ∨ a = -1 ∨ a = 0 ∨ a = 1 ∨ a = 2 ∨ a = 3 := by omega
  rcases this with rfl | rfl | rfl | rfl | rfl | rfl | rfl <;> decide +kernel
theorem words_fit {r : RowD} (h : r.good) : (r.words.map (·.length)).sum + r.words.length * (" " : Str).length ≤ 16777216 := by
  obtain ⟨ok, sm⟩ := h
  have l1 : ("to" : Str).length = 2 := rfl
  have l2 : ("by" : Str).length = 2 := rfl
  have l3 : ("join" : Str).length = 4 := rfl
  have l4 : ("part" : Str).length = 4 := rfl
  have l5 : (" " : Str).length = 1 := rfl
  cases r with
  | step k o t a =>
    have la := numS_len (Bool.and_eq_true_iff.mp ok).2
    obtain ⟨s1, s2, s3⟩ := sm
    simp only [RowD.words, List.map_cons, List.map_nil, List.sum_cons, List.sum_nil, List.length_cons, List.length_nil, l1, l2, l5]
    omega
  | join k o t a =>
    have la := numS_len (Bool.and_eq_true_iff.mp ok).2
    obtain ⟨s1, s2, s3⟩ := sm
    simp only [RowD.words, List.map_cons, List.map_nil, List.sum_cons, List.sum_nil, List.length_cons, List.length_nil, l1, l2, l3, l5]
    omega
  | part o l r a m =>
    obtain ⟨ok2, okm⟩ := Bool.and_eq_true_iff.mp ok
    have la := numS_len (Bool.and_eq_true_iff.mp ok2).2
    have lm := numS_len okm
    obtain ⟨s1, s2, s3⟩ := sm
    simp only [RowD.words, List.map_cons, List.map_nil, List.sum_cons, List.sum_nil, List.length_cons, List.length_nil, l1, l2, l4, l5]
    omega
end
end Fk

/-! Forkpolls: the source of draws, a list [cells, number] that changes at each draw. -/
namespace Fk
open PySem PySem.Spec PyProof.Rows L2
/-- the list at a holds the list at b and a number -/
def DealAt (a b : Addr) (cs : List Int) (m : Int) (H : Hp) : Prop := H a = some (.lst [.ref b, .int m]) ∧ H b = some (.lst (cs.map V.int)) ∧ (∀ c, c ∈ cs → 0 ≤ c) ∧ cs.length ≤ 64 ∧ 0 ≤ m ∧ m < 2147483647
def DealJ (a b : Addr) (H : Hp) : Prop := ∃ cs m, DealAt a b cs m H
theorem DealAt.ne {a b : Addr} {cs : List Int} {m : Int} {H : Hp} (h : DealAt a b cs m H) : a ≠ b := fun e => by
  obtain ⟨h1, h2, _⟩ := h
  rw [e, h2] at h1
  have h3 := HO.lst.inj (Option.some.inj h1)
  cases cs with
  | nil => cases h3
  | cons c cs => exact nomatch (List.cons.inj h3).1
/-- all but the source stands -/
def Rest (a b : Addr) (H H' : Hp) : Prop := ∀ x o, x ≠ a → x ≠ b → H x = some o → H' x = some o
theorem Rest.refl {a b : Addr} (H : Hp) : Rest a b H H := fun _ _ _ _ e => e
theorem Rest.trans {a b : Addr} {H H1 H2 : Hp} (x : Rest a b H H1) (y : Rest a b H1 H2) : Rest a b H H2 := fun c o n m e => y c o n m (x c o n m e)
theorem Rest.same {a b : Addr} {H H' : Hp} (e : Same H H') : Rest a b H H' := fun c o _ _ h => e c o h
/-- R's changing objects are the source's -/
structure IsDeal (R : Res) (a b : Addr) : Prop where
  d : R.D = [a, b]
  j : ∀ H, R.J H ↔ DealJ a b H ∧ ∀ x, x ∈ R.h → H x ≠ none
  n : ∀ x, x ∈ R.h → x ≠ a ∧ x ≠ b
def DealR (a b : Addr) : Res where
  D := [a, b]
  h := []
  J := DealJ a b
  at_ := fun H j x hx => by
    obtain ⟨cs, m, h1, h2, _⟩ := j
    rcases hx with h | h
    · rcases List.mem_cons.mp h with e | e
      · rw [e, h1]; exact fun z => nomatch z
      · rw [List.mem_singleton.mp e, h2]; exact fun z => nomatch z
    · exact absurd h List.not_mem_nil
  st := fun H H' j k _ => by
    obtain ⟨cs, m, h1, h2, h3⟩ := j
    exact ⟨cs, m, by rw [k a (by simp), h1], by rw [k b (by simp), h2], h3⟩
theorem isDeal_R {a b : Addr} : IsDeal (DealR a b) a b := ⟨rfl, fun H => ⟨fun h => ⟨h, fun x hx => absurd hx List.not_mem_nil⟩, fun h => h.1⟩, fun x hx => absurd hx List.not_mem_nil⟩
section
variable {R : Res} {a b p : Addr} {H H' H1 : Hp}
theorem IsDeal.add (h : IsDeal R a b) (hp : p ≠ a ∧ p ≠ b) : IsDeal (R.add p) a b where
  d := h.d
  j := fun H => by
    constructor
    · rintro ⟨j, n⟩
      refine ⟨((h.j H).mp j).1, fun x hx => ?_⟩
      rcases List.mem_cons.mp hx with e | e
      · rw [e]; exact n
      · exact ((h.j H).mp j).2 x e
    · rintro ⟨j, n⟩
      exact ⟨(h.j H).mpr ⟨j, fun x hx => n x (List.mem_cons_of_mem _ hx)⟩, n p List.mem_cons_self⟩
  n := fun x hx => by
    rcases List.mem_cons.mp hx with e | e
    · rw [e]; exact hp
    · exact h.n x e
theorem IsDeal.off (h : IsDeal R a b) (j : R.J H) (hp : H p = none) : p ≠ a ∧ p ≠ b := by
  obtain ⟨⟨cs, m, h1, h2, _⟩, _⟩ := (h.j H).mp j
  exact ⟨fun e => (by rw [e, h1] at hp; exact nomatch hp), fun e => (by rw [e, h2] at hp; exact nomatch hp)⟩
theorem IsDeal.gv (h : IsDeal R a b) (j : R.J H) (d : DealJ a b H') (r : Rest a b H H') : Gv R H H' := by
  have hh : ∀ x, x ∈ R.h → H' x = H x := fun x hx => by
    obtain ⟨n1, n2⟩ := h.n x hx
    cases q : H x with
    | none => exact absurd q (R.at_ H j x (.inr hx))
    | some o => exact r x o n1 n2 q
  refine ⟨⟨(h.j H').mpr ⟨d, fun x hx => by rw [hh x hx]; exact R.at_ H j x (.inr hx)⟩, fun x o e n _ => ?_⟩, hh⟩
  rw [h.d] at n
  exact r x o (fun e => n (by simp [e])) (fun e => n (by simp [e])) e
theorem Gr.rest (h : IsDeal R a b) (hn : R.h = []) (g : Gr R H H') : Rest a b H H' := fun x o n1 n2 e => g.2 x o e (by rw [h.d]; simp [n1, n2]) (by rw [hn]; exact List.not_mem_nil)
end
/-! ### more of reading -/
section
variable {K : PySem.W.Frag} {R : Res} {σ : L2.St} {H Hc : Hp} {ta tb te : TE} {t : TT} {D : Ends} {tu : TS} {v : V}
theorem ev_ixL {xs : List V} {i : Int} (ha : EvP R ta σ H (IsL K R xs)) (hb : EvP R tb σ H (Is (.int i))) (hx : atI xs i = some v) : EvP R (tOp (rIxL K) ta tb) σ H (Is v) := ev_op stb_isL ha hb fun x y H1 g ⟨p, e, h⟩ hy Q q => by
  cases hy
  exact ⟨p, xs, i, v, e, rfl, h.now g.1, hx, q v H1 g.at rfl⟩
theorem ev_ixT {xs : List V} {i : Int} (ha : EvP R ta σ H (IsU K R xs)) (hb : EvP R tb σ H (Is (.int i))) (hx : atI xs i = some v) : EvP R (tOp (rIxT K) ta tb) σ H (Is v) := ev_op stb_isU ha hb fun x y H1 g ⟨p, e, h⟩ hy Q q => by
  cases hy
  exact ⟨p, xs, i, v, e, rfl, h.now g.1, hx, q v H1 g.at rfl⟩
theorem ev_varL {i : Nat} {p : Addr} {xs : List V} (h : σ[i]? = some (some (.ref p))) (hp : Al R (fun H' => SqL K H' p xs) H) : EvP R (tVar i) σ H (IsL K R xs) := ev_var h fun H' g => ⟨p, rfl, Al.gr g hp⟩
theorem al_lst {p : Addr} {xs : List V} (h : H p = some (.lst xs)) (hd : p ∉ R.D ∧ p ∉ R.h) : Al R (fun H' => SqL K H' p xs) H := fun H' g => .inl (.inl (g.2 p _ h hd.1 hd.2))
theorem al_tup {p : Addr} {xs : List V} (h : H p = some (.tup xs)) (hd : p ∉ R.D ∧ p ∉ R.h) : Al R (fun H' => SqT K H' p xs) H := fun H' g => .inl (.inl (g.2 p _ h hd.1 hd.2))
theorem ev_int1 {i : Int} (ha : EvP R ta σ H (Is (.int i))) : EvP R (tCB (fun xs H Q => (∃ i, xs = [.int i] ∧ Q (.int i) H) ∨ ∃ k, xs = [.bl k] ∧ Q (.int (if k then 1 else 0)) H) (tCons ta tNil)) σ H (Is (.int i)) := ev_cb (ea_is ha ea_nil) fun vs H1 g ps Q q => by
  cases psOk1 ps
  exact .inl ⟨i, rfl, q _ H1 g.at rfl⟩
theorem ev_abs {i : Int} (ha : EvP R ta σ H (Is (.int i))) : EvP R (tCB (fun xs H Q => ∃ i, xs = [.int i] ∧ Q (.int (if i < 0 then -i else i)) H) (tCons ta tNil)) σ H (Is (.int (if i < 0 then -i else i))) := ev_cb (ea_is ha ea_nil) fun vs H1 g ps Q q => by
  cases psOk1 ps
  exact ⟨i, rfl, q _ H1 g.at rfl⟩
theorem s_while (W : Nat → L2.St → Hp → Prop) (m0 : Nat) (h0 : W m0 σ Hc)
    (hs : ∀ m σ' H', W m σ' H' → ∃ b, EvT R t σ' H' b ∧ Gr R H' H' ∧ (b = true → ∀ H1, Gv R H' H1 → ∃ N : L2.St → Hp → Prop, (∀ σ2 H2, N σ2 H2 → ∃ m', m' < m ∧ W m' σ2 H2) ∧ tu { D with nx := N, ct := N, bk := D.nx } σ' H1) ∧ (b = false → ∀ H1, Gv R H' H1 → D.nx σ' H1)) : tWhile t tu D σ Hc :=
  ⟨W, ⟨m0, h0⟩, fun m σ' H' hw => by
    obtain ⟨b, hb, g, h1, h2⟩ := hs m σ' H' hw
    refine hb H' g _ fun H1 g1 => ?_
    cases b with
    | true => exact (if_pos rfl).mpr (h1 rfl H1 g1)
    | false => exact (if_neg Bool.false_ne_true).mpr (h2 rfl H1 g1)⟩
end
/-! ### data of ints -/
def dInts (cs : List Int) : PyData := .list (cs.map PyData.int)
theorem eqv_nilI (cs : List Int) : PyData.eqv (dInts cs) (.list []) = cs.isEmpty := by cases cs <;> rfl
theorem dpAll_ints {K : PySem.W.Frag} {H : Hp} : ∀ cs : List Int, DpAll K H (cs.map V.int) (cs.map PyData.int)
  | [] => .nil
  | c :: cs => .cons (.int c) (dpAll_ints cs)
theorem canLay_ints : ∀ cs : List Int, PyData.canLayAll0 (cs.map PyData.int) = true
  | [] => rfl
  | c :: cs => by
    show (PyData.canLay0 (.int c) && PyData.canLayAll0 (cs.map PyData.int)) = true
    rw [canLay_ints cs]
    rfl
theorem depth_ints : ∀ cs : List Int, (dInts cs).depth ≤ 1
  | [] => by decide
  | c :: cs => by
    have ih := depth_ints cs
    simp only [dInts, List.map_cons, PyData.depth, PyData.depthAll] at ih ⊢
    omega
theorem shaped_ints (cs : List Int) : SeqAt.shaped (dInts cs) = true := by
  have h1 : (dInts cs).canLay0 = true := canLay_ints cs
  have h2 := depth_ints cs
  unfold SeqAt.shaped
  rw [h1, decide_eq_true (by omega)]
  rfl
theorem rp_ints {K : PySem.W.Frag} {R : Res} {H : Hp} {p : Addr} {cs : List Int} (h : Al R (fun H' => SqL K H' p (cs.map V.int)) H) : Rp K R (dInts cs) (.ref p) H := fun H' g => .lst (h H' g) (dpAll_ints cs)
end Fk

/-! Forkpolls: lists and tuples of one's own, counted, cut, put together; calls that draw. -/
namespace Fk
open PySem PySem.Spec PyProof.Rows L2
/-! ### list.count of bools -/
def eqb (k : Bool) (v : Value) : Bool := match v with
  | .bool b => b == k
  | _ => false
theorem vals_bools : ∀ {bs : List Bool} {us : List Value}, Vals (bs.map V.bl) us → us = bs.map Value.bool
  | [], _, h => by cases h; rfl
  | b :: bs, _, h => by
    cases h with
    | cons h1 h2 =>
      have ih := vals_bools h2
      cases h1
      rw [ih]
      rfl
theorem eqb_count (k : Bool) : ∀ bs : List Bool, (bs.map Value.bool).countP (eqb k) = bs.count k
  | [] => rfl
  | b :: bs => by
    have ih := eqb_count k bs
    rw [List.map_cons, List.countP_cons, List.count_cons, ih] <;> rfl
section
variable {X : Cx}
def rCntB (K : PySem.W.Frag) : V → List V → Hp → VK → Prop := fun x xs H Q => ∃ (p : Addr) (bs : List Bool) (k : Bool), x = .ref p ∧ xs = [.bl k] ∧ SqL K H p (bs.map V.bl) ∧ Q (.int (bs.count k : Nat)) H
theorem mt_lcountB : MtR X "list.count" (rCntB X.K) := by
  intro pins s σ H x xs v us Q I rx rxs h
  obtain ⟨p, bs, k, rfl, rfl, hs, q⟩ := h
  cases rx
  obtain ⟨u, rfl, ru⟩ := rxs.one
  cases ru
  obtain ⟨its, rv, ⟨⟨cls, dd, data, sl⟩, n, ho, hc, hdn, hd⟩, hlen⟩ := I.list hs
  simp only at hc hd
  subst hc hd
  have hi := vals_bools rv
  refine call_meets PySem.F.slot_list_count ⟨_, ho, rfl⟩ PySem.F.entry_list_count (PySem.F.args_list_count_2 _ _)
    (SeqAt.list_countAt p its.toArray n dd sl (.bool k) (eqb k)) ⟨ho, fun y hy => ?_, ?_⟩
  · have hy' : y ∈ its := by simpa using hy
    rw [hi] at hy'
    obtain ⟨b, _, rfl⟩ := List.mem_map.mp hy'
    exact SeqAt.EqAt.bool_bool b k
  · have ec : its.toArray.toList.countP (eqb k) = bs.count k := by rw [← eqb_count k bs, ← hi]
    refine ⟨.int (bs.count k : Nat), H, I.tok _, ⟨s.toks, ?_⟩, q⟩
    show Value.int ((its.toArray.toList.countP (eqb k) : Nat) : Int) s.toks = Value.int ((bs.count k : Nat) : Int) s.toks
    rw [ec]
end
/-! ### lists and tuples of one's own -/
def LstN (R : Res) (vs : List V) : VP := fun u H => ∃ p, u = .ref p ∧ H p = some (.lst vs) ∧ (p ∉ R.D ∧ p ∉ R.h)
section
variable {K : PySem.W.Frag} {R : Res} {σ : L2.St} {H Hc : Hp} {ta tb te tl : TE} {to1 to2 : TO} {t : TA} {xs ys vs : List V} {v : V}
theorem stb_lstN : Stb R (LstN R vs) := fun _ _ _ g ⟨p, e, h, hd⟩ => ⟨p, e, g.2 p _ h hd.1 hd.2, hd⟩
theorem lstN_L {u : V} (h : LstN R vs u H) : IsL K R vs u H := let ⟨_, e, hp, hd⟩ := h; e ▸ isL_of hp hd
theorem tupN_U {u : V} (h : TupN R vs u H) : IsU K R vs u H := let ⟨_, e, hp, hd⟩ := h; e ▸ isU_of hp hd
theorem ev_L (h : EvP R te σ H (LstN R vs)) : EvP R te σ H (IsL K R vs) := ev_imp h fun _ _ _ e => lstN_L e
theorem ev_U (h : EvP R te σ H (TupN R vs)) : EvP R te σ H (IsU K R vs) := ev_imp h fun _ _ _ e => tupN_U e
theorem ev_lstN (h : EvA R t σ H (vs.map Is)) (hl : vs.length ≤ 1000) : EvP R (tLst t) σ H (LstN R vs) := ev_lstV h hl
theorem ev_varLN {i : Nat} {p : Addr} (h : σ[i]? = some (some (.ref p))) (hp : H p = some (.lst vs)) (hd : p ∉ R.D ∧ p ∉ R.h) : EvP R (tVar i) σ H (LstN R vs) := ev_var h fun H' g => ⟨p, rfl, g.2 p _ hp hd.1 hd.2, hd⟩
theorem ev_varTN {i : Nat} {p : Addr} (h : σ[i]? = some (some (.ref p))) (hp : H p = some (.tup vs)) (hd : p ∉ R.D ∧ p ∉ R.h) : EvP R (tVar i) σ H (TupN R vs) := ev_var h fun H' g => ⟨p, rfl, g.2 p _ hp hd.1 hd.2, hd⟩
theorem ev_cat (ha : EvP R ta σ H (LstN R xs)) (hb : EvP R tb σ H (LstN R ys)) (hl : xs.length + ys.length ≤ 1000) : EvP R (tOp rCat ta tb) σ H (LstN R (xs ++ ys)) :=
  ev_op stb_lstN ha hb fun x y H1 g ⟨p, e1, h1, _⟩ ⟨p2, e2, h2, _⟩ Q q => ⟨p, p2, xs, ys, e1, e2, h1, h2, small hl, fun l hl' => q _ _ (Gv.new g.1 hl') ⟨l, rfl, upd_same, off g.1 hl'⟩⟩
theorem ev_catA (ha : EvP R ta σ H (TupN R xs)) (hb : EvP R tb σ H (TupN R ys)) (hl : xs.length + ys.length ≤ 1000) : EvP R (tOp (rCatA K) ta tb) σ H (TupN R (xs ++ ys)) :=
  ev_op stb_tupN ha hb fun x y H1 g ⟨p, e1, h1, d1⟩ ⟨p2, e2, h2, d2⟩ Q q => ⟨p, p2, xs, ys, e1, e2, .inl (.inl h1), .inl (.inl h2), small hl,
    fun e => q _ _ (Gv.refl g.1) ⟨p2, rfl, by rw [e]; exact h2, d2⟩, fun _ e => q _ _ (Gv.refl g.1) ⟨p, rfl, by rw [e, List.append_nil]; exact h1, d1⟩, fun _ _ l hl' => q _ _ (Gv.new g.1 hl') ⟨l, rfl, upd_same, off g.1 hl'⟩⟩
theorem eo_none : EvO R tNoPart σ H none := fun H1 g Q q => q H1 g.at
theorem eo_some {i : Int} (h : EvP R te σ H (Is (.int i))) : EvO R (tPart te) σ H (some i) := fun H1 g Q q => h H1 g _ fun v H2 g2 e => ⟨i, e, q H2 g2⟩
theorem cut_whole {lo hi : Option Int} (h : HT.sIx xs.length 0 lo = 0 ∧ HT.sIx xs.length xs.length hi = xs.length) : cutV xs lo hi = xs := by
  unfold cutV
  rw [h.1, h.2]
  simp
theorem ev_slA {lo hi : Option Int} (ha : EvP R ta σ H (TupN R xs)) (hl : EvO R to1 σ H lo) (hh : EvO R to2 σ H hi) : EvP R (tSl (rSlA K) ta to1 to2) σ H (TupN R (cutV xs lo hi)) := fun H0 g0 Q q =>
  ha H0 g0 _ fun x H1 g1 px => hl H1 (g0.trans g1) _ fun H2 g2 => hh H2 (g0.trans (g1.trans g2)) _ fun H3 g3 => by
    obtain ⟨p, e, h, hd⟩ := stb_tupN x _ _ (g2.trans g3).1 px
    refine ⟨p, xs, e, .inl (.inl h), fun w => q _ _ (g1.trans (g2.trans g3)) ⟨p, rfl, by rw [cut_whole w]; exact h, hd⟩, fun _ l hl' => q _ _ ((g1.trans (g2.trans g3)).trans (Gv.new g3.1.1 hl')) ⟨l, rfl, upd_same, off g3.1.1 hl'⟩⟩
theorem ev_slL {lo hi : Option Int} (ha : EvP R ta σ H (IsL K R xs)) (hl : EvO R to1 σ H lo) (hh : EvO R to2 σ H hi) : EvP R (tSl (rSlL K) ta to1 to2) σ H (LstN R (cutV xs lo hi)) := fun H0 g0 Q q =>
  ha H0 g0 _ fun x H1 g1 px => hl H1 (g0.trans g1) _ fun H2 g2 => hh H2 (g0.trans (g1.trans g2)) _ fun H3 g3 => by
    obtain ⟨p, e, h⟩ := stb_isL x _ _ (g2.trans g3).1 px
    exact ⟨p, xs, e, h.now g3.1.1, fun l hl' => q _ _ ((g1.trans (g2.trans g3)).trans (Gv.new g3.1.1 hl')) ⟨l, rfl, upd_same, off g3.1.1 hl'⟩⟩
theorem ev_slE {φ : List V → Prop} {lo hi : Option Int} (ha : EvP R ta σ H (fun u H => ∃ xs, φ xs ∧ LstN R xs u H)) (hl : EvO R to1 σ H lo) (hh : EvO R to2 σ H hi) : EvP R (tSl (rSlL K) ta to1 to2) σ H (fun u H => ∃ xs, φ xs ∧ LstN R (cutV xs lo hi) u H) := fun H0 g0 Q q =>
  ha H0 g0 _ fun x H1 g1 ⟨xs, f, px⟩ => hl H1 (g0.trans g1) _ fun H2 g2 => hh H2 (g0.trans (g1.trans g2)) _ fun H3 g3 => by
    obtain ⟨p, e, h, _⟩ := stb_lstN x _ _ (g2.trans g3).1 px
    exact ⟨p, xs, e, .inl (.inl h), fun l hl' => q _ _ ((g1.trans (g2.trans g3)).trans (Gv.new g3.1.1 hl')) ⟨xs, f, l, rfl, upd_same, off g3.1.1 hl'⟩⟩
theorem ev_revL (ha : EvP R ta σ H (IsL K R xs)) : EvP R (tRevL K ta) σ H (LstN R xs.reverse) := fun H0 g0 Q q =>
  ha H0 g0 _ fun x H1 g1 ⟨p, e, h⟩ => ⟨p, xs, e, h.now g1.1.1, fun l hl' => q _ _ (g1.trans (Gv.new g1.1.1 hl')) ⟨l, rfl, upd_same, off g1.1.1 hl'⟩⟩
theorem ev_cntB {bs : List Bool} {k : Bool} (ho : EvP R te σ H (LstN R (bs.map V.bl))) (htk : EvP R ta σ H (Is (.bl k))) : EvP R (tBM K "list" (rCntB K) te (tCons ta tNil)) σ H (Is (.int (bs.count k : Nat))) := fun H0 g0 Q q =>
  ho H0 g0 _ fun x H1 g1 hx => by
    obtain ⟨p, e, h, hd⟩ := hx
    cases e
    refine ⟨.inl ⟨rfl, _, .inl (.inl h)⟩, htk H1 (g0.trans g1) _ fun u H2 g2 ek => ?_⟩
    cases ek
    exact ⟨p, bs, k, rfl, rfl, .inl (.inl (g2.1.2 p _ h hd.1 hd.2)), q _ H2 (g1.trans g2) rfl⟩
theorem ew_zip {n : Nat} (h : EvA R t σ H [IsL K R xs, IsL K R ys]) (hn : n = min xs.length ys.length) : EvW R (iZip K t) σ H n (YPair (fun i => xs[i]?) (fun i => ys[i]?)) := fun H1 a Z k => h H1 a _ fun us H2 a2 ps => by
  match us, ps with
  | [u1, u2], ⟨⟨p, e1, h1⟩, ⟨p2, e2, h2⟩, _⟩ =>
    cases e1; cases e2
    exact ⟨p, p2, xs, ys, rfl, h1.now a2.1.1, h2.now a2.1.1, k _ H2 (fun H => SqL K H p xs ∧ SqL K H p2 ys) a2 (walk_zip hn) fun H' g => ⟨h1 H' g, h2 H' g⟩⟩
theorem s_retL {D : Ends} {Ps : List VP} (h : EvA R t σ H Ps) (g : Gr R H Hc) (k : ∀ us H1, Gr R H H1 → PsOk Ps us H1 → us.length ≤ 1000 ∧ ∀ p, H1 p = none → D.rt (.ref p) (upd H1 p (.lst us))) : tRet (tLst t) D σ Hc := h Hc g _ fun us H1 g1 ps => ⟨small (k us H1 (g.trans g1) ps).1, (k us H1 (g.trans g1) ps).2⟩
theorem s_retT {D : Ends} {Ps : List VP} (h : EvA R t σ H Ps) (g : Gr R H Hc) (k : ∀ us H1, Gr R H H1 → PsOk Ps us H1 → us.length ≤ 1000 ∧ ∀ p, H1 p = none → D.rt (.ref p) (upd H1 p (.tup us))) : tRet (tTup t) D σ Hc := h Hc g _ fun us H1 g1 ps => ⟨small (k us H1 (g.trans g1) ps).1, (k us H1 (g.trans g1) ps).2⟩
theorem s_par {D : Ends} {i j : Nat} {P1 P2 : VP} (h : EvA R t σ H [P1, P2]) (g : Gr R H Hc) (k : ∀ v u H1, Gr R H H1 → Gv R Hc H1 → P1 v H1 → P2 u H1 → D.nx ((σ.set i (some v)).set j (some u)) H1) : tPar i j t D σ Hc := h Hc g _ fun us H1 g1 ps => by
  match us, ps with
  | [v, u], ⟨p1, p2, _⟩ => exact ⟨v, u, rfl, k v u H1 (g.trans g1) g1 p1 p2⟩
theorem ev_listOf (h : EvP R ta σ H (fun u H => ∃ p, u = .ref p ∧ (SqL K H p xs ∨ SqT K H p xs))) : EvP R (tCB (fun us H Q => ∃ p zs, us = [.ref p] ∧ (SqL K H p zs ∨ SqT K H p zs) ∧ ∀ l, H l = none → Q (.ref l) (upd H l (.lst zs))) (tCons ta tNil)) σ H (LstN R xs) := fun H0 g0 Q q =>
  h H0 g0 _ fun x H1 g1 ⟨p, e, hp⟩ => ⟨p, xs, by rw [e], hp, fun l hl' => q _ _ (g1.trans (Gv.new g1.1.1 hl')) ⟨l, rfl, upd_same, off g1.1.1 hl'⟩⟩
/-- a call that draws -/
theorem ev_dc {a b : Addr} (I : IsDeal R a b) {sp : Sp} {E : XK} {Ps : List VP} {P : VP} (h : EvA R t σ H Ps)
    (hs : ∀ vs H1, Gr R H H1 → PsOk Ps vs H1 → DealJ a b H1 → ∀ Q : VK, (∀ v H2, DealJ a b H2 → Rest a b H1 H2 → P v H2 → Q v H2) → sp vs H1 Q E) : EvP R (tCall sp [] E t) σ H P :=
  ev_call h fun vs H1 g ps Q q => by
    rw [List.append_nil]
    exact hs vs H1 g ps ((I.j H1).mp g.1).1 Q fun v H2 d r p => q v H2 (I.gv g.1 d r) p
end
theorem deal_gr {a b : Addr} {H H' : Hp} (d : DealJ a b H') (r : Rest a b H H') : Gr (DealR a b) H H' := ⟨d, fun x o e n _ => r x o (fun z => n (by rw [z]; exact List.mem_cons_self)) (fun z => n (by rw [z]; exact List.mem_cons_of_mem _ List.mem_cons_self)) e⟩
theorem gr_deal {a b : Addr} {H H' : Hp} (g : Gr (DealR a b) H H') : DealJ a b H' ∧ Rest a b H H' := ⟨g.1, fun x o n1 n2 e => g.2 x o e (by show x ∉ [a, b]; simp [n1, n2]) List.not_mem_nil⟩
theorem off_deal {a b p : Addr} (n1 : p ≠ a) (n2 : p ≠ b) : p ∉ (DealR a b).D ∧ p ∉ (DealR a b).h := ⟨by show p ∉ [a, b]; simp [n1, n2], List.not_mem_nil⟩
theorem deal_off {a b p : Addr} (h : p ∉ (DealR a b).D ∧ p ∉ (DealR a b).h) : p ≠ a ∧ p ≠ b := by
  have h1 : p ∉ [a, b] := h.1
  simp at h1
  exact h1
theorem seq_ix {n : Nat} {i : Int} (h0 : 0 ≤ i) (h1 : i < (n : Int)) : seqIndex? i n = some i.toNat := by
  show (if (decide (0 ≤ (if i < 0 then i + (n : Int) else i)) && decide ((if i < 0 then i + (n : Int) else i) < (n : Int))) = true then some (if i < 0 then i + (n : Int) else i).toNat else none) = some i.toNat
  rw [if_neg (show ¬ i < 0 by omega), decide_eq_true h0, decide_eq_true h1]
  rfl
/-! ### data of texts -/
def dStrs (zs : List Str) : PyData := .list (zs.map PyData.str)
theorem eqv_nilS (zs : List Str) : PyData.eqv (dStrs zs) (.list []) = zs.isEmpty := by cases zs <;> rfl
theorem dpAll_strs {K : PySem.W.Frag} {H : Hp} : ∀ zs : List Str, DpAll K H (zs.map V.str) (zs.map PyData.str)
  | [] => .nil
  | z :: zs => .cons (.str z) (dpAll_strs zs)
theorem canLay_strs : ∀ zs : List Str, (∀ z, z ∈ zs → PyData.strOk z = true) → PyData.canLayAll0 (zs.map PyData.str) = true
  | [], _ => rfl
  | z :: zs, h => by
    show (PyData.strOk z && PyData.canLayAll0 (zs.map PyData.str)) = true
    rw [canLay_strs zs fun y hy => h y (List.mem_cons_of_mem _ hy), h z List.mem_cons_self]
    rfl
theorem depth_strs : ∀ zs : List Str, (dStrs zs).depth ≤ 1
  | [] => by decide
  | z :: zs => by
    have ih := depth_strs zs
    simp only [dStrs, List.map_cons, PyData.depth, PyData.depthAll] at ih ⊢
    omega
theorem shaped_strs (zs : List Str) (h : ∀ z, z ∈ zs → PyData.strOk z = true) : SeqAt.shaped (dStrs zs) = true := by
  have h1 : (dStrs zs).canLay0 = true := canLay_strs zs h
  have h2 := depth_strs zs
  unfold SeqAt.shaped
  rw [h1, decide_eq_true (by omega)]
  rfl
theorem ev_strsD {K : PySem.W.Frag} {R : Res} {σ : L2.St} {H : Hp} {te : TE} {zs : List Str} (h : EvP R te σ H (LstN R (zs.map V.str))) : EvP R te σ H (Rp K R (dStrs zs)) := ev_imp h fun u H' g ⟨p, e, hp, hd⟩ => e ▸ fun H2 g2 => .lst (.inl (.inl (g2.2 p _ hp hd.1 hd.2))) (dpAll_strs zs)
end Fk

/-! Forkpolls: for over range without a heap of facts; lists of things of which something is known. -/
namespace Fk
open PySem PySem.Spec PyProof.Rows L2
section
variable {K : PySem.W.Frag} {R : Res} {σ : L2.St} {H Hc H' : Hp} {ta tb te : TE} {t : TA} {P : VP} {Ps : List VP} {xs : List V}
theorem s_rng {tu : TS} {D : Ends} {g : TG} {m : Int} (h : EvA R t σ H [Is (.int m)]) (hm : 0 ≤ m ∧ m ≤ 100000) (gc : Gr R H Hc) (Pv : Nat → L2.St → Hp → Prop) (h0 : ∀ H1, Gr R H H1 → Gv R Hc H1 → Pv 0 σ H1)
    (hs : ∀ (i : Nat) σ' H', i < m.toNat → Pv i σ' H' → g (.int (i : Int)) σ' H' fun σ2 H3 => tu { D with nx := Pv (i + 1), ct := Pv (i + 1), bk := D.nx } σ2 H3) (he : ∀ σ' H', Pv m.toNat σ' H' → D.nx σ' H') :
    tFor (iRng1 t) g tu D σ Hc := h Hc gc _ fun vs H2 a2 ps => by
  have e := psOk1 ps
  refine ⟨m, e, by omega, by omega, ?_⟩
  refine for_it (walk_range (lo := 0) (n := m.toNat)) Pv (h0 H2 (gc.trans a2) a2) (fun _ _ _ _ _ => True.intro) (fun i x σ' H' H'' hi p y => ?_) he
  obtain ⟨y1, y2⟩ := y
  subst y1
  have y3 : x = .int (i : Int) := y2.trans (congrArg V.int (Int.zero_add _))
  subst y3
  exact hs i σ' _ hi p
theorem psOk_stb : ∀ {Ps : List VP} {xs : List V}, (∀ P, P ∈ Ps → Stb R P) → Gr R H H' → PsOk Ps xs H → PsOk Ps xs H'
  | [], [], _, _, _ => True.intro
  | P :: Ps, x :: xs, h, g, ⟨h1, h2⟩ => ⟨h P List.mem_cons_self x H H' g h1, psOk_stb (fun Q hQ => h Q (List.mem_cons_of_mem _ hQ)) g h2⟩
theorem psOk_get : ∀ {Ps : List VP} {xs : List V} {i : Nat} {P : VP}, PsOk Ps xs H → Ps[i]? = some P → ∃ x, xs[i]? = some x ∧ P x H
  | P :: Ps, x :: xs, 0, _, ⟨h1, _⟩, e => by
    cases e
    exact ⟨x, rfl, h1⟩
  | P :: Ps, x :: xs, i + 1, Q, ⟨_, h2⟩, e => psOk_get (Ps := Ps) (xs := xs) (i := i) h2 e
  | [], _, _, _, _, e => by simp at e
theorem psOk_ex {α β : Type} {φ : β → Prop} {S : β → VP} : ∀ {l : List α} {xs : List V}, PsOk (l.map fun _ => (fun u H => ∃ r, φ r ∧ S r u H)) xs H → ∃ rs : List β, rs.length = l.length ∧ (∀ r, r ∈ rs → φ r) ∧ PsOk (rs.map S) xs H
  | [], [], _ => ⟨[], rfl, fun _ h => absurd h List.not_mem_nil, True.intro⟩
  | _ :: l, x :: xs, ⟨⟨r, f, h1⟩, h2⟩ => by
    obtain ⟨rs, e, k, h⟩ := psOk_ex (l := l) h2
    refine ⟨r :: rs, congrArg Nat.succ e, fun s hs => ?_, h1, h⟩
    rcases List.mem_cons.mp hs with q | q
    · rw [q]; exact f
    · exact k s q
theorem psOk_tup_upd {α : Type} {S : α → List V} {p : Addr} {ys : List V} {o : HO} (hp : H p = some (.lst ys)) : ∀ {rs : List α} {xs : List V}, PsOk (rs.map fun r => TupN R (S r)) xs H → PsOk (rs.map fun r => TupN R (S r)) xs (upd H p o)
  | [], [], _ => True.intro
  | r :: rs, x :: xs, ⟨⟨q, e, h, hd⟩, h2⟩ => ⟨⟨q, e, by
      have : q ≠ p := fun z => by rw [z, hp] at h; cases h
      rw [upd_ne this]
      exact h, hd⟩, psOk_tup_upd hp h2⟩
theorem gl_map {β : Type} (d : β) (S : β → VP) : ∀ rs : List β, gl rs.length (fun _ => true) (fun i => S (rs.getD i d)) = rs.map S := fun rs => by
  unfold gl
  rw [filter_yes]
  apply List.ext_getElem?
  intro i
  rw [List.getElem?_map, List.getElem?_map]
  by_cases hi : i < rs.length
  · rw [List.getElem?_range hi, List.getElem?_eq_getElem hi]
    show some (S (rs.getD i d)) = some (S rs[i])
    rw [List.getD_eq_getElem?_getD, List.getElem?_eq_getElem hi]
    rfl
  · rw [List.getElem?_eq_none (by rw [List.length_range]; omega), List.getElem?_eq_none (by omega)]
    rfl
/-- an item of a list of one's own -/
theorem ev_item {k : Nat} {p : Addr} {x : V} {i : Nat} (hv : σ[k]? = some (some (.ref p))) (hp : H p = some (.lst xs)) (hd : p ∉ R.D ∧ p ∉ R.h) (hx : xs[i]? = some x) (hi : EvP R tb σ H (Is (.int (i : Int)))) (s : Stb R P) (h : P x H) : EvP R (tOp (rIxL K) (tVar k) tb) σ H P :=
  ev_imp (ev_ixL (ev_L (ev_varLN hv hp hd)) hi (atI_nat hx)) fun u H' g e => by
    cases e
    exact s x H H' g h
theorem ev_varP {k : Nat} {x : V} (hv : σ[k]? = some (some x)) (s : Stb R P) (h : P x H) : EvP R (tVar k) σ H P := ev_var hv fun H' g => s x H H' g h
theorem tupN_add {p : Addr} {vs : List V} {u : V} (h : TupN (R.add p) vs u H) : TupN R vs u H := let ⟨q, e, hq, hd⟩ := h; ⟨q, e, hq, hd.1, fun z => hd.2 (List.mem_cons_of_mem _ z)⟩
theorem tupN_into {p : Addr} {vs : List V} {u : V} (hn : H p = none) (h : TupN R vs u H) : TupN (R.add p) vs u H := let ⟨q, e, hq, hd⟩ := h; ⟨q, e, hq, hd.1, fun z => by
  rcases List.mem_cons.mp z with z | z
  · rw [z, hn] at hq; cases hq
  · exact hd.2 z⟩
end
end Fk

/-! Forkpolls: exceptions of the text's own classes as values. -/
namespace FkE
open PySem
section
variable {M : Model} {prog : Program} {w : World} {A : Around} {E : Value → Shared → Prop} {R : Result → Shared → Prop} {h : Heap} {g : Array GenState} {d : Drawn} {t : Nat} {os : OsState}
variable {nm q : Str} {C N : Addr} {bs bm bmB : List Value} {hdct : Bool} {sn : List Str} {sub : List Value} {ab : Bool} {col : Option Bool} {dd : Option Addr} {k0 k1 k2 k3 k5 : Option Value} {B newId initId : String}
theorem look_new (F : ExcBaseFacts B newId initId bmB) (hT : bm.contains (.type B) = true) {us : List Value} {kws : List (Str × Value)} {Q : Unit → Shared → Prop} (hk : kws = [] ∨ ∃ k v, kws = [(k, v)])
    (c : h.get? C = some (excClassObj nm q C N bs bm hdct sn sub ab col dd k0 k1 k2 k3 k5 newId)) (q : Q () ⟨h, g, d, t, os⟩) : wpAny M A (checkBuiltinCall newId ⟨.ref C :: us, kws⟩) Q E ⟨h, g, d, t, os⟩ := by
  have hB : (Value.ref C :: bm).contains (.type B) = true := by rw [List.contains_cons, hT, Bool.or_true]
  have s := F.noStar
  rcases hk with rfl | ⟨k, v, rfl⟩
  · simp only [checkBuiltinCall, F.newKind, F.newSplit, F.newRow]
    repeat (first | refine wpAny_loadPart_at c ?_ | (refine wpAny_isSubtype_exc c ?_; rw [hB]) | refine wpAny_staticBase_exc c ?_ | refine wpAny_madeBy_exc c ?_ | simp only [bne_self_eq_false, Bool.false_eq_true, if_false] | wp_step)
    exact q
  · simp only [checkBuiltinCall, F.newKind, F.newSplit, F.newRow]
    repeat (first | refine wpAny_loadPart_at c ?_ | (refine wpAny_isSubtype_exc c ?_; rw [hB]) | refine wpAny_staticBase_exc c ?_ | refine wpAny_madeBy_exc c ?_ | simp only [bne_self_eq_false, Bool.false_eq_true, if_false] | wp_step)
    exact q
theorem made_new (F : ExcBaseFacts B newId initId bmB) (hT : bm.contains (.type B) = true) (hA : bm.contains (.type "AttributeError") = false) (hN : bm.contains (.type "NameError") = false) {us : List Value} {kws : List (Str × Value)}
    (c : h.get? C = some (excClassObj nm q C N bs bm hdct sn sub ab col dd k0 k1 k2 k3 k5 newId)) (hl : us.length ≤ sizeLine)
    (r : R (.ok (.ret (.ref (h.objs.size + 1)))) ⟨(h.push { cls := .type "tuple", data := .seq us.toArray }).push { cls := .ref C, data := .fields #[.ref h.objs.size, .none, .none, .none, .bool false, .none] }, g, d, t, os⟩) :
    codeAny (model prog w) A (.builtin newId ⟨.ref C :: us, kws⟩) R ⟨h, g, d, t, os⟩ := by
  have en := F.ends
  have cB : (Value.ref C :: bm).contains (.type B) = true := by rw [List.contains_cons, hT, Bool.or_true]
  have cA : (Value.ref C :: bm).contains (.type "AttributeError") = false := by rw [List.contains_cons, hA] <;> rfl
  have cN : (Value.ref C :: bm).contains (.type "NameError") = false := by rw [List.contains_cons, hN] <;> rfl
  refine codeAny_builtinAt F.entry ?_
  unfold Builtin.«BaseException.__new__»
  refine wpAt_bind ?_
  show wpAt _ _ _ (stack >>= _) _ _ _
  refine wpAt_bind (wpAt_stack fun p below => wpAt_of_wpAny ?_)
  wp_walk
  refine wpAt_of_wpAny ?_
  rw [F.owner]
  repeat (first | with_reducible refine wpAny_madeHere_exc F.canon c ?_ | with_reducible refine wpAny_loadPart_at c ?_ | (with_reducible refine wpAny_isSubtype_exc c ?_; first | rw [cB] | rw [cA] | rw [cN]) | wp_step)
  show R _ _
  rw [Heap.size_push]
  exact r
abbrev exN (C t : Addr) : Obj := { cls := .ref C, data := .fields #[.ref t, .none, .none, .none, .bool false, .none] }
theorem made_init (F : ExcBaseFacts B newId initId bmB) (hT : bm.contains (.type B) = true) (hA : bm.contains (.type "AttributeError") = false) (hN : bm.contains (.type "NameError") = false) {us : List Value} {kws : List (Str × Value)} {fI : Addr} {Q : PySem.Fin → Shared → Prop} (hk : kws = [] ∨ ∃ k v, kws = [(k, v)])
    (c : h.get? C = some (excClassObj nm q C N bs bm hdct sn sub ab col dd k0 k1 k2 k3 k5 newId)) (i : W.Looks (model prog w) h (typeLookup (.ref C) "__init__") (some (.ref fI))) (b : ∀ x, W.Looks (model prog w) h (bindSpecial (.ref fI) x) (.ref fI, [x])) (hl : us.length ≤ sizeLine)
    (r : codeAny (model prog w) A (.call (.ref fI) ⟨.ref (h.objs.size + 1) :: us, kws⟩) (fun r s' => match r with | .ok (.ret v) => v = .none ∧ Q (.done (.ret (.ref (h.objs.size + 1)))) s' | .ok _ => False | .error e => E e s') ⟨(h.push (W.kdv_tup us)).push (exN C h.objs.size), g, d, t, os⟩) :
    wpAny (model prog w) A (Builtin.«type.__call__» ⟨.ref C :: us, kws⟩) Q E ⟨h, g, d, t, os⟩ := by
  repeat (first | with_reducible refine wpAny_loadPart_at c ?_ | with_reducible refine wpAny_madeBy_exc c ?_ | wp_step)
  refine codeAny_call_builtin_code (Code.quiet_builtin _ F.quiet) (look_new F hT hk c ?_)
  refine made_new F hT hA hN c hl ?_
  show wpAny _ _ _ _ _ _
  have kp : ∀ b o, h.get? b = some o → ((h.push (W.kdv_tup us)).push (exN C h.objs.size)).get? b = some o := fun b o e => Heap.get?_push_of_some _ (Heap.get?_push_of_some _ e)
  have c1 := kp _ _ c
  have own : ((h.push (W.kdv_tup us)).push (exN C h.objs.size)).get? (h.objs.size + 1) = some (exN C h.objs.size) := by heap_get
  have cC : (Value.ref C :: bm).contains (.ref C) = true := by simp
  have i1 := i.keeps kp
  have b1 := (b (.ref (h.objs.size + 1))).keeps kp
  unfold isInstance
  repeat (first | with_reducible refine wpAny_loadPart_at own ?_ | (with_reducible refine wpAny_isSubtype_exc c1 ?_; rw [cC]) | wp_step)
  show wpAny _ _ (typeLookup (.ref C) _) _ _ _
  refine i1.at (wpAny_holding (wpAny_bind (b1.at (wpAny_bind (wpAny_call (codeAny_mono r fun r s' z => ?_))))))
  rcases r with e | (v | _ | _ | _) <;> first | exact z | exact z.elim | skip
  obtain ⟨rfl, z⟩ := z
  first
    | exact wpAny_pure (wpAny_pure z)
    | (wp_walk; exact z)
theorem made_call (F : ExcBaseFacts B newId initId bmB) (hT : bm.contains (.type B) = true) (hA : bm.contains (.type "AttributeError") = false) (hN : bm.contains (.type "NameError") = false) {us : List Value} {kws : List (Str × Value)} {fI : Addr} (hk : kws = [] ∨ ∃ k v, kws = [(k, v)])
    (c : h.get? C = some (excClassObj nm q C N bs bm hdct sn sub ab col dd k0 k1 k2 k3 k5 newId)) (i : W.Looks (model prog w) h (typeLookup (.ref C) "__init__") (some (.ref fI))) (b : ∀ x, W.Looks (model prog w) h (bindSpecial (.ref fI) x) (.ref fI, [x])) (hl : us.length ≤ sizeLine)
    (r : codeAny (model prog w) (A.under (.builtin "type.__call__" ⟨.ref C :: us, kws⟩)) (.call (.ref fI) ⟨.ref (h.objs.size + 1) :: us, kws⟩) (W.InitBack (h.objs.size + 1) R) ⟨(h.push (W.kdv_tup us)).push (exN C h.objs.size), g, d, t, os⟩) :
    codeAny (model prog w) A (.call (.ref C) ⟨us, kws⟩) R ⟨h, g, d, t, os⟩ := by
  have f1 := tc_lookup
  have f2 := tc_bind (.ref C)
  have ty : (⟨h, g, d, t, os⟩ : Shared).TypeIs (.ref C) "type" := ⟨_, c, rfl⟩
  refine codeAny_of_tree ?_
  show wpAny _ _ (callAny (.ref C) _) _ _ _
  repeat (any_goals (first | assumption | with_reducible refine wpAny_loadPart_at c ?_ | wp_step))
  refine ⟨rfl, codeAny_call_builtin_at (Code.quiet_builtin _ (by decide +kernel)) entry_typeCall (wpAny_check_type_call_sub c (made_init F hT hA hN hk c i b hl ?_))⟩
  refine codeAny_mono r fun r s' z => ?_
  rcases r with e | (v | _ | _ | _) <;> exact z
end
end FkE

/-! Forkpolls: exceptions as values, the rules. -/
namespace FkE
open PySem PySem.W PySem.Calls PyProof.Rows PySem.HandSPX Builtin Builtin.ObjectAttr
section
variable {prog : Program} {w : World} {A : Around} {R : Result → Shared → Prop} {hp : Heap} {g : Array GenState} {d : Drawn} {t : Nat} {os : OsState}
/-- the first field of an exception, whatever its bases -/
theorem first_field {K : W.Frag} {z : Str} {tk : Tok} {v : Value} {x C : Addr} {fv : Array Value} {cd : ClassData} (X : K.In hp) (hx : hp.get? x = some { cls := .ref C, data := .fields fv }) (hcd : W.clsIn K C = some cd)
    (pass : refuseLoop (.ref x) "__setattr__" cd.mro = pure ()) (ne : cd.mro.isEmpty = false) (ob : cd.mro.contains (.type "object") = true) (hh : cd.hasDict = true) (ha : W.findIn K (.ref C) z = some none)
    (r : ∀ h' tk' dx, (∀ b o, b ≠ x → hp.get? b = some o → h'.get? b = some o) → hp.objs.size ≤ dx → dx ≠ x → h'.get? x = some { cls := .ref C, dict := some dx, data := .fields fv } → h'.Ns1 dx (fun y => if y = z then some v else none) → R (.ok (.ret .none)) ⟨h', g, d, tk', os⟩) :
    codeAny (model prog w) A (.call (.builtin "object.__setattr__") ⟨[.ref x, .str z tk, v], []⟩) R ⟨hp, g, d, t, os⟩ := by
  have I : W.InstAt hp x { cls := .ref C, data := .fields fv } C none := ⟨hx, rfl, rfl, trivial⟩
  have S := F.store_object
  have xs : x ≠ hp.objs.size := Nat.ne_of_lt (Heap.lt_size hx)
  have sb : W.Looks (model prog w) hp (isInstance (.ref x) (.type "object")) true := I.type.andThen (W.looks_mroIn X (by unfold W.mroIn; rw [hcd, Option.bind_some, if_neg (by rw [ne]; decide), ob]))
  refine codeAny_call_builtin S.slot.plain S.entry (@W.check_slot (model prog w) _ _ ⟨hp, g, d, t, os⟩ "object.__setattr__" "object" "__setattr__" (.ref x) [.str z tk, v] [] _ S.kind S.split sb (S.args (.ref x) (.str z tk) v) ?_)
  have l1 : W.Looks (model prog w) hp (mroOf (.ref C)) cd.mro := (W.looks_clsIn X hcd).andThen .now
  have l2 : W.Looks (model prog w) hp (storeTaker? none) none := .now
  have l3 : W.Looks (model prog w) hp (classData C) cd := W.looks_clsIn X hcd
  rw [W.osa_eq, refuse_eq]
  refine wpAny_bind (wpAny_bind (I.type.at (wpAny_bind (l1.at ?_))))
  rw [pass]
  refine wpAny_pure (wpAny_bind (I.type.at (wpAny_bind ((W.looks_findIn X ha).at (wpAny_bind (l2.at ?_))))))
  show wpAny _ _ (storeInOwnDict (.ref x) (.ref C) (.str z tk) z v false) _ _ _
  obtain ⟨n1, n2, n3, n4, n5, n6, n7, n8, n9, n10, n11⟩ := cd
  dsimp only at hh
  subst hh
  unfold storeInOwnDict ownDictForStores
  repeat (first | with_reducible refine store_in_new ?_ ?_ | with_reducible refine wpAny_loadPart_at hx ?_ | with_reducible refine l3.at ?_ | wp_step)
  · exact ⟨_, #[], _, (Heap.get?_update_ne _ _ _ _ xs.symm).trans (Heap.get?_push_at rfl rfl), rfl, fun e he => absurd he (by simp), fun _ => rfl⟩
  · intro h' tk' n s
    have x1 : (hp.push { cls := .type "dict", data := .dict #[] }).get? x = some { cls := .ref C, data := .fields fv } := Heap.get?_push_of_some _ hx
    exact r h' tk' hp.objs.size (fun b o hb ho => (s.2 b (Nat.ne_of_lt (Heap.lt_size ho))).trans ((Heap.get?_update_ne _ _ _ _ hb).trans (Heap.get?_push_of_some _ ho))) (Nat.le_refl _) xs.symm ((s.2 x xs).trans (Heap.get?_update_self _ x1 rfl)) n
end
end FkE
namespace Fk
open PySem PySem.Spec PyProof.Rows L2
/-- an own exception class, over any built-in one -/
structure XcC (K : PySem.W.Frag) (C : Addr) : Prop where
  cls : ∃ nm q N bs bm sn sub ab col dd k0 k1 k2 k3 k5 B newId initId bmB, K.lookup C = some (excClassObj nm q C N bs bm true sn sub ab col dd k0 k1 k2 k3 k5 newId) ∧ ExcBaseFacts B newId initId bmB ∧ bm.contains (.type B) = true ∧ bm.contains (.type "AttributeError") = false ∧ bm.contains (.type "NameError") = false ∧
    (∀ x, refuseLoop x "__setattr__" (.ref C :: bm) = pure ()) ∧ bm.contains (.type "object") = true
  sa : PySem.W.findIn K (.ref C) "__setattr__" = some (some (.builtin "object.__setattr__"))
  kC : PySem.W.keepIn K (.ref C) = true
  ec : ExcC K C
section
variable {X : Cx} {pins : List (Addr × Obj)} {σ : L2.St} {H : Hp} {s : Shared} {a C dx : Addr} {f x : Str} {y : V} {u : Value} {fs : List (Str × V)} {e o : Expr} {es : List Expr} {kws : List Keyword} {ta te to : TE} {ts tk : TA} {p p' pos : Pos} {CX : CXT} {k : Nat} {fI : Addr} {fd : FuncData} {ps : List Str} {sp : Sp}
/-- C(..) as a value, C's own __init__ keeping sp -/
def tMkX (C : Addr) (sp : Sp) (ts : TA) : TE := fun σ H Q => ts σ H fun vs H1 => vs.length ≤ 1000 ∧ ∀ a, H1 a = none → sp (.ref a :: vs) (upd H1 a (exo a C none)) (fun v H2 => v = .non ∧ Q (.ref a) H2) (fun _ _ _ => False)
theorem run_mkX {us : List Value} {ws : List Value} {vs : List V} {ks : List Str} {Q : VK} (T : XcC X.K C) (iC : PySem.W.findIn X.K (.ref C) "__init__" = some (some (.ref fI))) (tI : PySem.W.typeIn X.K (.ref fI) = some (.type "function")) (F : FnOk X.prog X.w X.K X.mg X.base CX k fI fd ps sp) (hr : Room (k + 1) X.A) (hx : Passes CX X (fun _ _ _ => False))
    (hk : ks.zip ws = [] ∨ ∃ k v, ks.zip ws = [(k, v)]) (hb : ∀ (s : Shared) (z : Value), X.K.In s.heap → BindsTo s fd ⟨z :: us, ks.zip ws⟩ (ps.zip (z :: (us ++ ws)))) (I : Inv X pins σ H s) (r : Vals vs (us ++ ws)) (hl : vs.length ≤ 1000)
    (h : ∀ a, H a = none → sp (.ref a :: vs) (upd H a (exo a C none)) (fun v H2 => v = .non ∧ Q (.ref a) H2) (fun _ _ _ => False)) :
    wpAny (model X.prog X.w) X.A (call (.ref C) us (ks.zip ws)) (EP X pins σ Q) X.xe s := by
  obtain ⟨nm, q, N, bs, bm, sn, sub, ab, col, dd, k0, k1, k2, k3, k5, B, n1, n2, bmB, hC, G, c1, c2, c3, c4, c5⟩ := T.cls
  obtain ⟨hp, g, dr, tk, os⟩ := s
  have sz : hp.objs.size ≤ hp.objs.size + 1 := Nat.le_succ _
  have hn : H (hp.objs.size + 1) = none := I.hok.fresh sz
  have kk : ∀ b o, hp.get? b = some o → ((hp.push (PySem.W.kdv_tup us)).push (FkE.exN C hp.objs.size)).get? b = some o := fun b o e => Heap.get?_push_of_some _ (Heap.get?_push_of_some _ e)
  have own : ((hp.push (PySem.W.kdv_tup us)).push (FkE.exN C hp.objs.size)).get? (hp.objs.size + 1) = some (FkE.exN C hp.objs.size) := by heap_get
  have I2 : Inv X pins σ (upd H (hp.objs.size + 1) (exo (hp.objs.size + 1) C none)) ⟨(hp.push (PySem.W.kdv_tup us)).push (FkE.exN C hp.objs.size), g, dr, tk, os⟩ :=
    I.laid (t' := tk) (a := hp.objs.size + 1) (o := exo (hp.objs.size + 1) C none) (h' := (hp.push (PySem.W.kdv_tup us)).push (FkE.exN C hp.objs.size)) kk sz (exo_ok own)
  have r2 : Vals (V.ref (hp.objs.size + 1) :: vs) (Value.ref (hp.objs.size + 1) :: (us ++ ws)) := .cons rfl r
  have lu : us.length ≤ sizeLine := by
    have := Paired.length r
    rw [List.length_append] at this
    rw [sizeLine_eq]
    omega
  refine wpAny_call (FkE.made_call G c1 c2 c3 hk (I.kIn _ _ hC) (PySem.W.looks_findIn I.kIn iC) (fun z => PySem.W.bind_fn I.kIn z tI) lu
    (codeAny_mono (F.run _ X.stack _ _ ⟨Value.ref (hp.objs.size + 1) :: us, ks.zip ws⟩ (Value.ref (hp.objs.size + 1) :: (us ++ ws)) _ _ (fun _ _ _ => False) (hr.make C us (ks.zip ws)) (I2.env0.make C us (ks.zip ws)) (hb _ _ I2.kIn) r2 (h _ hn)) fun r s' z => ?_))
  cases r with
  | error er => exact hx pins σ _ _ er s' I2 z
  | ok fl =>
    cases fl with
    | ret u =>
      obtain ⟨v, H2, os2, bare2, un2, hok2, rv, ev, q2⟩ := z
      subst ev
      exact ⟨rv, .ref (hp.objs.size + 1), H2, I2.call' (ch := []) os2 un2 hok2 bare2 (fun b z => absurd z (by simp)), rfl, q2⟩
    | next => exact False.elim z
    | brk => exact False.elim z
    | cont => exact False.elim z
end
end Fk

/-! Forkpolls: exceptions as values, readings. -/
namespace Fk
open PySem PySem.Spec PyProof.Rows L2
section
variable {X : Cx} {pins : List (Addr × Obj)} {σ : L2.St} {H : Hp} {s : Shared} {a C dx : Addr} {f x : Str} {y : V} {u : Value} {fs : List (Str × V)} {e o : Expr} {es : List Expr} {kws : List Keyword} {ta te to : TE} {ts tk : TA} {p p' pos : Pos} {CX : CXT} {k : Nat} {fI : Addr} {fd : FuncData} {ps : List Str} {sp : Sp}
theorem pe_mkX (T : XcC X.K C) (iC : PySem.W.findIn X.K (.ref C) "__init__" = some (some (.ref fI))) (tI : PySem.W.typeIn X.K (.ref fI) = some (.type "function")) (F : FnOk X.prog X.w X.K X.mg X.base CX k fI fd ps sp) (hr : Room (k + 1) X.A) (hx : Passes CX X (fun _ _ _ => False))
    (hb : Binds X.K fd ps []) (hm : X.mg x = some (.ref C)) (ha : PA X (e :: es) ts) (hg : Gl X x := by rfl) (hdb : (x == ("__debug__" : Str)) = false := by decide) (he : starEach (e :: es) X.env = (false, eval e X.env) :: starEach es X.env := by rfl) (hpl : (backTo pos (starEach es X.env)).any (·.1) = false := by rfl) :
    PE X (.Call (.Name x p) (e :: es) [] pos) (tMkX C sp ts) := by
  refine ⟨fun pins s σ H Q I h => ?_⟩
  refine wpAny_Call_Name_kw (ld_glob I hg hm ?_ hdb)
  refine PySem.W.callWith_K (h₀ := X.base) I.ok.mod.kin T.kC (thn (ha.run pos pins s σ H _ I h) fun us s1 ⟨vs, H1, I1, r1, hz, q1⟩ => ⟨I1.kIn, ?_⟩) he hpl
  have hlen : ∀ a, H1 a = none → vs.length + 1 = ps.length := fun a ha => F.len _ _ _ _ (q1 a ha)
  exact run_mkX (ks := []) (ws := []) T iC tI F hr hx (.inl rfl) (fun s z kin => by
    have l : (z :: us ++ []).length = ps.length := by
      rw [List.append_nil, List.length_cons, ← Paired.length r1]
      exact hlen _ (I1.hok.fresh (Nat.le_refl _))
    have := hb s (z :: us) kin l
    rw [List.append_nil] at this
    rw [List.append_nil]
    exact this) I1 (by rw [List.append_nil]; exact r1) hz q1
theorem pe_mkXk {k1 : Str} (T : XcC X.K C) (iC : PySem.W.findIn X.K (.ref C) "__init__" = some (some (.ref fI))) (tI : PySem.W.typeIn X.K (.ref fI) = some (.type "function")) (F : FnOk X.prog X.w X.K X.mg X.base CX k fI fd ps sp) (hr : Room (k + 1) X.A) (hx : Passes CX X (fun _ _ _ => False))
    (hb : ∀ (s : Shared) (z v : Value), X.K.In s.heap → BindsTo s fd ⟨[z], [(k1, v)]⟩ (ps.zip [z, v])) (hm : X.mg x = some (.ref C)) (hkw : PK X kws tk) (hp2 : ps.length = 2) (hg : Gl X x := by rfl) (hdb : (x == ("__debug__" : Str)) = false := by decide)
    (hall : (backToKw pos (keywordEach kws X.env)).all (·.1.isSome) = true := by rfl) (hks : (backToKw pos (keywordEach kws X.env)).filterMap (·.1) = [k1] := by rfl) (hpl : ((backTo pos (starEach [] X.env)).any (·.1) || (backToKw pos (keywordEach kws X.env)).any (·.1.isNone)) = false := by rfl) :
    PE X (.Call (.Name x p) [] kws pos) (tMkX C sp tk) := by
  refine ⟨fun pins s σ H Q I h => ?_⟩
  refine wpAny_Call_Name_kw (ld_glob I hg hm ?_ hdb)
  refine PySem.W.callWith_KW0 (h₀ := X.base) I.ok.mod.kin T.kC hall ?_ hpl
  refine thn (hkw.run pos pins s σ H _ I h) fun ws s2 ⟨zs, H2, I2, rz, l1, q2⟩ => ⟨I2.kIn, ?_⟩
  rw [hks]
  have l : zs.length = 1 := by
    have := F.len _ _ _ _ (q2 _ (I2.hok.fresh (Nat.le_refl _)))
    rw [hp2] at this
    simpa using this
  have lw : ws.length = 1 := by rw [← Paired.length rz]; exact l
  match ws, lw with
  | [v], _ => exact run_mkX (us := []) (ws := [v]) (ks := [k1]) T iC tI F hr hx (.inr ⟨k1, v, rfl⟩) (fun s z kin => hb s z v kin) I2 rz l1 q2
/-- self.f = e, the first field -/
def tStX (K : PySem.W.Frag) (f : Str) (to te : TE) : TS := fun D σ H => te σ H fun y H1 => to σ H1 fun x H2 => ∃ a C : Addr, x = .ref a ∧ XcC K C ∧ PySem.W.findIn K (.ref C) f = some none ∧ H2 a = some (exo a C none) ∧ ∀ dx, H2 dx = none → dx ≠ a → D.nx σ (upd (upd H2 dx (exd dx [(f, y)])) a (exo a C (some dx)))
theorem stX_ok {A : Around} {E : Value → Shared → Prop} {Q : Unit → Shared → Prop} (T : XcC X.K C) (I : Inv X pins σ H s) (e : H a = some (exo a C none)) (hno : PySem.W.findIn X.K (.ref C) f = some none) (ry : RelV y u)
    (h : ∀ dx s', H dx = none → dx ≠ a → Inv X pins σ (upd (upd H dx (exd dx [(f, y)])) a (exo a C (some dx))) s' → Q () s') : wpAny (model X.prog X.w) A (setAttr (.ref a) f u) Q E s := by
  obtain ⟨nm, q, N, bs, bm, sn, sub, ab, col, dd, k0, k1, k2, k3, k5, B, n1, n2, bmB, hC, G, c1, c2, c3, c4, c5⟩ := T.cls
  have cl : PySem.W.clsIn X.K C = some { name := nm, bases := bs, mro := .ref C :: bm, ns := N, qualname := q, hasDict := true, slotNames := sn, subclasses := sub, abstract := ab, collection := col, hasDel := false } := by unfold PySem.W.clsIn; rw [hC] <;> rfl
  obtain ⟨t1, ho⟩ := exo_at I.hok e
  obtain ⟨hp, g, d, t, os⟩ := s
  refine PySem.W.set_plain I.kIn (ox := { cls := .ref C, dict := none, data := .fields #[.ref t1, .none, .none, .none, .bool false, .none] }) (od := none) ⟨ho, rfl, rfl, trivial⟩ T.sa ?_
  refine FkE.first_field I.kIn ho cl (c4 _) rfl (by rw [List.contains_cons, c5, Bool.or_true]) rfl hno (fun h' tk' dx k dn dne hx hn => ?_)
  have nd0 : H dx = none := I.hok.fresh dn
  have nd : ∀ {b : Addr} {o : Obj}, hp.get? b = some o → b ≠ dx := fun {b o} q => Nat.ne_of_lt (Nat.lt_of_lt_of_le (Heap.lt_size q) dn)
  have na : ∀ {b : Addr}, H b = none → b ≠ a := fun {b} n z => by
    rw [z, e] at n
    cases n
  have U : Un X.fs [] H (upd (upd H dx (exd dx [(f, y)])) a (exo a C (some dx))) hp h' := {
    keep := fun b o q n _ _ => k b o (na n) q
    slot := fun b o q n _ _ => ⟨o.slots, k b o (na n) q⟩
    free := fun b o q n _ => by rw [upd_ne (na n), upd_ne (nd q), n]
    there := fun b o q _ => by
      by_cases hb : b = a
      · rw [hb]
        exact ⟨_, hx⟩
      · exact ⟨o, k b o hb q⟩
    tups := fun b xs q => by rw [upd_ne (at_ne e q exo_tup), upd_ne (ne_of_none q nd0), q]
    frzs := fun b o v q => by rw [upd_ne (at_ne e q exo_frz), upd_ne (ne_of_none q nd0), q]
    tbls := fun b ps q => ⟨#[], by rw [upd_ne (at_ne e q exo_tbl), upd_ne (ne_of_none q nd0), q] <;> simp⟩ }
  refine h dx _ nd0 dne (I.un (t' := tk') U fun b o q => ?_)
  by_cases hb : b = a
  · subst hb
    rw [upd_same] at q
    cases q
    exact exo_ok hx
  · rw [upd_ne hb] at q
    by_cases hd : b = dx
    · subst hd
      rw [upd_same] at q
      cases q
      exact exd_ok hn (relO_put (fs := []) ry fun g => True.intro)
    · rw [upd_ne hd] at q
      refine (I.hok b o q).stay (fun c v hc z => k c v ?_ z) (fun c hc => by rw [upd_ne (at_ne e hc exo_own), upd_ne (ne_of_none hc nd0), hc]) (fun c xs hc => by rw [upd_ne (at_ne e hc exo_tup), upd_ne (ne_of_none hc nd0), hc])
      rcases hc with hc | hc
      · rw [hc]
        exact hb
      · exact at_ne e hc exo_own
theorem ps_stX (ho : PE X o to) (he : PE X e te) (hs : swapsWith e (some (.Attribute o f p')) pos.line X.env = pure false := by rfl) : PS X (.Assign [.Attribute o f p'] e pos) (tStX X.K f to te) := by
  refine ⟨fun pins s σ H D I h => ?_⟩
  refine plainObj_wpAny_Assign_Attribute (thn (he.run pins s σ H _ I h) fun v s1 ⟨y, H1, I1, r1, q1⟩ => thn (ho.run pins s1 σ H1 _ I1 q1) fun u s2 ⟨x, H2, I2, r2, a, C, ex, T, hno, ea, q⟩ => ?_) hs
  subst ex
  obtain rfl : u = Value.ref a := r2
  exact stX_ok T I2 ea hno r1 fun dx s' n ne J => ⟨σ, _, J, q dx n ne⟩
/-- e.f, e an exception with this field -/
def tFlX (K : PySem.W.Frag) (f : Str) (te : TE) : TE := fun σ H Q => te σ H fun x H1 => ∃ (a C dx : Addr) (fs : List (Str × V)) (v : V), x = .ref a ∧ XcC K C ∧ PySem.W.findIn K (.ref C) f = some none ∧ H1 a = some (exo a C (some dx)) ∧ H1 dx = some (exd dx fs) ∧ fs.lookup f = some v ∧ Q v H1
theorem pe_flX (he : PE X e te) (hb : attributeBase e f X.env (eval e X.env) = eval e X.env := by rfl) : PE X (.Attribute e f pos) (tFlX X.K f te) := by
  refine ⟨fun pins s σ H Q I h => ?_⟩
  refine attr_of hb (thn (he.run pins s σ H _ I h) fun u s1 ⟨x, H1, I1, rx, a, C, dx, fs, v, ex, T, hno, ea, ed, l, q⟩ => ?_)
  subst ex
  obtain rfl : u = Value.ref a := rx
  obtain ⟨t1, ho⟩ := exo_at I1.hok ea
  obtain ⟨mA, hns, rel⟩ := exd_at I1.hok ed
  have hw := within_of rel
  obtain ⟨od, hod, hl⟩ := lookIn_ns (by
    obtain ⟨o, es, ep, h1, h2⟩ := hns
    exact ⟨o, es, ep, h1, h2.1, h2.2⟩)
  obtain ⟨u, hu, ru⟩ := RelO.some_of (v := v) (o := mA f) (by rw [← l]; exact rel f)
  have J : PySem.W.InstAt s1.heap a { cls := .ref C, dict := some dx, data := .fields #[.ref t1, .none, .none, .none, .bool false, .none] } C (some od) := ⟨ho, rfl, rfl, hod⟩
  exact HandSPX.exc_get I1.kIn J T.ec.hg T.ec.hk T.ec.hs (PySem.W.findObj_own T.ec.hd hno rfl (by rw [hl, hu])) (handed_of ru) ⟨v, H1, I1.tok _, ru, q⟩
end
end Fk

/-! Forkpolls: exceptions as values: made without arguments, asked for their class. -/
namespace Fk
open PySem PySem.Spec PyProof.Rows L2
section
variable {X : Cx} {C : Addr} {x : Str} {p pos : Pos}
/-- C(), C without an own __init__ -/
def tMkE (C : Addr) : TE := fun σ H Q => ∀ a, H a = none → Q (.ref a) (upd H a (ExO (.ref C) a))
theorem pe_mkE {bmB : List Value} {B newId initId : String} (F : ExcBaseFacts B newId initId bmB) (q : PySem.W.excIn X.K C bmB newId = true) (gC : X.mg x = some (.ref C)) (kC : PySem.W.keepIn X.K (.ref C) = true) (hg : Gl X x := by rfl) (hdb : (x == ("__debug__" : Str)) = false := by decide) :
    PE X (.Call (.Name x p) [] [] pos) (tMkE C) := by
  refine ⟨fun pins s σ H Q I h => ?_⟩
  refine wpAny_Call_Name_kw (ld_glob I hg gC ?_ hdb)
  refine PySem.W.callWith_K0 I.kIn kC ?_
  show wpAny _ _ (call (.ref C) []) _ _ _
  obtain ⟨bm, N, nm, qn, bs, hdct, sn, sub, ab, col, dd, k0, k1, k2, k3, k5, mN, hC, hN, hni, T⟩ := exc_obj I.kIn q
  refine wpAny_call_exc_subT F T hC hN hni (fun h' a hm => ?_) (Nat.zero_le _)
  have hn : H a = none := I.hok.gone hm.new
  obtain ⟨t, ht, _, _⟩ := hm.there
  exact ⟨.ref a, upd H a (ExO (.ref C) a), I.laidN hm.keeps hm.new hn (exO_ok ht ⟨rfl, rfl⟩ rfl rfl rfl (show 4 < 6 by decide)), rfl, h a hn⟩
/-- an exception of the class at C stands at a -/
def XAt (H : Hp) (a C : Addr) : Prop := (∃ dx fs, H a = some (exo a C (some dx)) ∧ H dx = some (exd dx fs)) ∨ H a = some (ExO (.ref C) a)
def rIsX (K : PySem.W.Frag) : List V → Hp → VK → Prop := fun xs H Q => ∃ (a C : Addr) (c : V) (cv : Value) (b : Bool), xs = [.ref a, c] ∧ XAt H a C ∧ ExcC K C ∧ ClsV c cv ∧ PySem.W.kitOne K (.ref C) cv = some b ∧ Q (.bl b) H
theorem call_isX : CallR X (.builtin "isinstance") (rIsX X.K) := by
  intro pins s σ H xs us Q I r h
  obtain ⟨a, C, c, cv, b, rfl, hx, T, hc, e, q⟩ := h
  obtain ⟨u1, u2, rfl, r1, r2⟩ := vals2 r
  cases r1
  have ec := hc.eq r2
  subst ec
  have cl : (PySem.W.clsIn X.K C).isSome = true := by
    obtain ⟨cd, h, _⟩ := PySem.W.any_some T.hd
    rw [h]
    rfl
  have fin : ∀ {o : Obj} {od : Option Obj}, PySem.W.InstAt s.heap a o C od → wpAny (model X.prog X.w) X.A (call (.builtin "isinstance") [.ref a, u2]) (EP X pins σ Q) X.xe s := fun {o od} J =>
    PySem.W.kia_one (PySem.W.kitx_exc cl T.hg T.hk T.hs T.ha T.hn T.ht T.hm) I.kIn J e (fun z => nomatch z) fun tk => ⟨.bl b, H, I.kept (t' := tk) fun _ _ z => z, rfl, q⟩
  rcases hx with ⟨dx, fs, h1, h2⟩ | h1
  · obtain ⟨t1, ho⟩ := exo_at I.hok h1
    obtain ⟨mA, hns, rel⟩ := exd_at I.hok h2
    obtain ⟨oD, _, _, hoD, _, _⟩ := hns.count (within_of rel)
    exact fin (o := { cls := .ref C, dict := some dx, data := .fields #[.ref t1, .none, .none, .none, .bool false, .none] }) (od := some oD) ⟨ho, rfl, rfl, hoD⟩
  · obtain ⟨⟨oe, vs, ho, hz, hd, _⟩, _⟩ := I.hok a _ h1
    obtain ⟨oc, od, oda, osl⟩ := oe
    obtain ⟨z1, z2⟩ := hz
    dsimp only at z1 z2 hd
    subst z1 z2 hd
    exact fin (od := none) ⟨ho, rfl, rfl, trivial⟩
end
end Fk

/-! Forkpolls: the facts of own exception classes. -/
namespace Fk
open PySem PySem.Spec PyProof.Rows L2
def ieTail : List Value := [.type "IndexError", .type "LookupError", .type "Exception", .type "BaseException", .type "object"]
def keTail : List Value := [.type "KeyError", .type "LookupError", .type "Exception", .type "BaseException", .type "object"]
def xpassVE (bm : List Value) : Bool := PySem.HandSPX.refsVE bm
def xpassIE (bm : List Value) : Bool := bm == ieTail
def xpassKE (bm : List Value) : Bool := bm == keTail
theorem ie_pass (x : Value) : refuseLoop x "__setattr__" ieTail = pure () := by kernel_rfl
theorem ke_pass (x : Value) : refuseLoop x "__setattr__" keTail = pure () := by kernel_rfl
section
variable {K : PySem.W.Frag} {nm q : Str} {C N : Addr} {bs bm : List Value} {sn : List Str} {sub : List Value} {ab : Bool} {col : Option Bool} {dd : Option Addr} {k0 k1 k2 k3 k5 : Option Value}
theorem xcVE (l : K.lookup C = some (excClassObj nm q C N bs bm true sn sub ab col dd k0 k1 k2 k3 k5 "ValueError.__new__")) (p : xpassVE bm = true) (sa : PySem.W.findIn K (.ref C) "__setattr__" = some (some (.builtin "object.__setattr__"))) (kC : PySem.W.keepIn K (.ref C) = true) (ec : ExcC K C) : XcC K C :=
  ⟨⟨nm, q, N, bs, bm, sn, sub, ab, col, dd, k0, k1, k2, k3, k5, _, _, _, _, l, PySem.F.excBase_ValueError, (PySem.HandSPX.refsVE_contains _ bm p).trans (by decide +kernel), (PySem.HandSPX.refsVE_contains _ bm p).trans (by decide +kernel), (PySem.HandSPX.refsVE_contains _ bm p).trans (by decide +kernel),
    fun x => PySem.HandSPX.refsVE_pass x (.ref C :: bm) p, (PySem.HandSPX.refsVE_contains _ bm p).trans (by decide +kernel)⟩, sa, kC, ec⟩
theorem xcIE (l : K.lookup C = some (excClassObj nm q C N bs bm true sn sub ab col dd k0 k1 k2 k3 k5 "IndexError.__new__")) (p : xpassIE bm = true) (sa : PySem.W.findIn K (.ref C) "__setattr__" = some (some (.builtin "object.__setattr__"))) (kC : PySem.W.keepIn K (.ref C) = true) (ec : ExcC K C) : XcC K C := by
  have e : bm = ieTail := beq_iff_eq.mp p
  subst e
  exact ⟨⟨nm, q, N, bs, ieTail, sn, sub, ab, col, dd, k0, k1, k2, k3, k5, _, _, _, _, l, PySem.F.excBase_IndexError, by decide +kernel, by decide +kernel, by decide +kernel, fun x => by rw [refuseLoop_ref]; exact ie_pass x, by decide +kernel⟩, sa, kC, ec⟩
theorem xcKE (l : K.lookup C = some (excClassObj nm q C N bs bm true sn sub ab col dd k0 k1 k2 k3 k5 "LookupError.__new__")) (p : xpassKE bm = true) (sa : PySem.W.findIn K (.ref C) "__setattr__" = some (some (.builtin "object.__setattr__"))) (kC : PySem.W.keepIn K (.ref C) = true) (ec : ExcC K C) : XcC K C := by
  have e : bm = keTail := beq_iff_eq.mp p
  subst e
  exact ⟨⟨nm, q, N, bs, keTail, sn, sub, ab, col, dd, k0, k1, k2, k3, k5, _, _, _, _, l, PySem.F.excBase_LookupError, by decide +kernel, by decide +kernel, by decide +kernel, fun x => by rw [refuseLoop_ref]; exact ke_pass x, by decide +kernel⟩, sa, kC, ec⟩
end
/-- a class of the text that isinstance is asked about -/
structure KitC (K : PySem.W.Frag) (C : Addr) : Prop where
  ic : PySem.W.isClsIn K C = true
  ty : PySem.W.typeIn K (.ref C) = some (.type "type")
  me : PySem.W.subIn K (.ref C) (.ref C) = some true
theorem KitC.kit {K : PySem.W.Frag} {C : Addr} {t : Value} {b : Bool} (c : KitC K C) (h : PySem.W.subIn K t (.ref C) = some b) : PySem.W.kitOne K t (.ref C) = some b := by
  unfold PySem.W.kitOne
  by_cases e : (t == Value.ref C) = true
  · rw [if_pos e]
    have e' : t = .ref C := beq_iff_eq.mp e
    subst e'
    rw [c.me] at h
    exact h
  · rw [if_neg e]
    have z : ((PySem.W.clsIn K C).isSome && PySem.W.typeIn K (.ref C) == some (.type "type")) = true := by
      have z1 : (PySem.W.clsIn K C).isSome = true := c.ic
      rw [z1, c.ty]
      rfl
    show (if ((PySem.W.clsIn K C).isSome && PySem.W.typeIn K (.ref C) == some (.type "type")) = true then PySem.W.subIn K t (.ref C) else none) = some b
    rw [if_pos z]
    exact h
end Fk

/-! Forkpolls: exceptions as values, evaluated. -/
namespace Fk
open PySem PySem.Spec PyProof.Rows L2
def spXi (K : PySem.W.Frag) (f : Str) : Sp := fun vs H Q _ => ∃ (a C : Addr) (v : V), vs = [.ref a, v] ∧ XcC K C ∧ PySem.W.findIn K (.ref C) f = some none ∧ H a = some (exo a C none) ∧ ∀ dx, H dx = none → dx ≠ a → Q .non (upd (upd H dx (exd dx [(f, v)])) a (exo a C (some dx)))
/-- an __init__ that keeps its one argument -/
def InitX (P : Program) (w : World) (K : PySem.W.Frag) (mg : Str → Option Value) (base : Heap) (f : Addr) (z : Str) : Prop :=
  ∃ fd, FnOk P w K mg base CX0 1 f fd ["self", z] (spXi K z) ∧ Binds K fd ["self", z] [] ∧ ∀ (s : Shared) (a v : Value), K.In s.heap → BindsTo s fd ⟨[a], [(z, v)]⟩ ((["self", z] : List Str).zip [a, v])
section
variable {X : Cx} {C fI : Addr} {x z : Str} {e : Expr} {es : List Expr} {kws : List Keyword} {ts : TA} {p pos : Pos} {k : Nat}
theorem pe_mkXI (T : XcC X.K C) (iC : PySem.W.findIn X.K (.ref C) "__init__" = some (some (.ref fI))) (tI : PySem.W.typeIn X.K (.ref fI) = some (.type "function")) (c : InitX X.prog X.w X.K X.mg X.base fI z) (hr : Room 2 X.A) (hm : X.mg x = some (.ref C)) (ha : PA X (e :: es) ts)
    (hg : Gl X x := by rfl) (hdb : (x == ("__debug__" : Str)) = false := by decide) (he : starEach (e :: es) X.env = (false, eval e X.env) :: starEach es X.env := by rfl) (hpl : (backTo pos (starEach es X.env)).any (·.1) = false := by rfl) : PE X (.Call (.Name x p) (e :: es) [] pos) (tMkX C (spXi X.K z) ts) := by
  obtain ⟨fd, F, b, _⟩ := c
  exact pe_mkX T iC tI F hr pass0 b hm ha hg hdb he hpl
theorem pe_mkXkI (T : XcC X.K C) (iC : PySem.W.findIn X.K (.ref C) "__init__" = some (some (.ref fI))) (tI : PySem.W.typeIn X.K (.ref fI) = some (.type "function")) (c : InitX X.prog X.w X.K X.mg X.base fI z) (hr : Room 2 X.A) (hm : X.mg x = some (.ref C)) (hkw : PK X kws ts)
    (hg : Gl X x := by rfl) (hdb : (x == ("__debug__" : Str)) = false := by decide) (hall : (backToKw pos (keywordEach kws X.env)).all (·.1.isSome) = true := by rfl) (hks : (backToKw pos (keywordEach kws X.env)).filterMap (·.1) = [z] := by rfl)
    (hpl : ((backTo pos (starEach [] X.env)).any (·.1) || (backToKw pos (keywordEach kws X.env)).any (·.1.isNone)) = false := by rfl) : PE X (.Call (.Name x p) [] kws pos) (tMkX C (spXi X.K z) ts) := by
  obtain ⟨fd, F, _, b⟩ := c
  exact pe_mkXk T iC tI F hr pass0 b hm hkw rfl hg hdb hall hks hpl
end
/-- a new exception that keeps v under z -/
def XN (R : Res) (C : Addr) (z : Str) (v : V) : VP := fun u H => ∃ a dx, u = .ref a ∧ H a = some (exo a C (some dx)) ∧ H dx = some (exd dx [(z, v)]) ∧ (a ∉ R.D ∧ a ∉ R.h) ∧ (dx ∉ R.D ∧ dx ∉ R.h)
section
variable {K : PySem.W.Frag} {R : Res} {σ : L2.St} {H Hc H0 H1 H' : Hp} {ta tb te tl : TE} {ts : TA} {C a : Addr} {z : Str} {v u : V} {Ps Qs : List VP} {P : VP}
theorem stb_xn : Stb R (XN R C z v) := fun _ _ _ g ⟨a, dx, e, h1, h2, d1, d2⟩ => ⟨a, dx, e, g.2 a _ h1 d1.1 d1.2, g.2 dx _ h2 d2.1 d2.2, d1, d2⟩
theorem ev_mkX (T : XcC K C) (hn : PySem.W.findIn K (.ref C) z = some none) (h : EvA R ts σ H [Is v]) : EvP R (tMkX C (spXi K z) ts) σ H (XN R C z v) := fun H1 g1 Q q =>
  h H1 g1 _ fun vs H2 g2 ps => by
    cases psOk1 ps
    refine ⟨(show 1 ≤ 1000 by decide), fun a ha => ⟨a, C, v, rfl, T, hn, upd_same, fun dx hdx ne => ⟨rfl, ?_⟩⟩⟩
    rw [upd_ne ne] at hdx
    refine q _ _ (g2.trans (Gv.same g2.1.1 fun y o e => ?_)) ⟨a, dx, rfl, upd_same, by rw [upd_ne ne, upd_same], off g2.1.1 ha, off g2.1.1 hdx⟩
    rw [upd_ne (ne_of_none e ha), upd_ne (ne_of_none e hdx), upd_ne (ne_of_none e ha)]
    exact e
theorem stb_lsOk (s : ∀ P, P ∈ Ps → Stb R P) : Stb R (LsOk R Ps) := fun _ _ _ g ⟨p, xs, e, h, hd, ps⟩ => ⟨p, xs, e, g.2 p _ h hd.1 hd.2, hd, psOk_stb s g ps⟩
theorem ev_lstE (s : ∀ P, P ∈ Ps → Stb R P) (h : EvA R ts σ H Ps) (hl : Ps.length ≤ 1000) : EvP R (tLst ts) σ H (LsOk R Ps) := fun H1 g Q q =>
  h H1 g _ fun vs H2 g2 ps => ⟨by rw [psOk_len ps]; exact small hl, fun p hp => q _ _ (g2.trans (Gv.new g2.1.1 hp)) ⟨p, vs, rfl, upd_same, off g2.1.1 hp, psOk_stb s (Gv.new g2.1.1 hp).1 ps⟩⟩
theorem psOk_app : ∀ {Ps Qs : List VP} {xs ys : List V}, PsOk Ps xs H → PsOk Qs ys H → PsOk (Ps ++ Qs) (xs ++ ys) H
  | [], _, [], _, _, h => h
  | _ :: _, _, _ :: _, _, ⟨h1, h2⟩, h => ⟨h1, psOk_app h2 h⟩
theorem ev_catE2 (sP : ∀ P, P ∈ Ps → Stb R P) (sQ : ∀ P, P ∈ Qs → Stb R P) (ha : EvP R ta σ H (LsOk R Ps)) (hb : EvP R tb σ H (LsOk R Qs)) (hl : Ps.length + Qs.length ≤ 1000) : EvP R (tOp rCat ta tb) σ H (LsOk R (Ps ++ Qs)) :=
  ev_op (stb_lsOk sP) ha hb fun x y H1 g ⟨p, xs, e1, h1, _, ps⟩ ⟨p2, ys, e2, h2, _, qs⟩ Q q => ⟨p, p2, xs, ys, e1, e2, h1, h2, by rw [psOk_len ps, psOk_len qs]; exact small hl, fun l hl' =>
    q _ _ (Gv.new g.1 hl') ⟨l, xs ++ ys, rfl, upd_same, off g.1 hl', psOk_app (psOk_stb sP (Gv.new g.1 hl').1 ps) (psOk_stb sQ (Gv.new g.1 hl').1 qs)⟩⟩
theorem XAt.same (h : XAt H a C) (e : Same H H') : XAt H' a C := by
  rcases h with ⟨dx, fs, h1, h2⟩ | h
  · exact .inl ⟨dx, fs, e _ _ h1, e _ _ h2⟩
  · exact .inr (e _ _ h)
theorem ev_isX {c : V} {cv : Value} {b : Bool} (h : EvP R ta σ H (Is (.ref a))) (hb : EvP R tb σ H (Is c)) (k : ClsV c cv) (hx : Al R (fun H' => XAt H' a C) H) (T : ExcC K C) (e : PySem.W.kitOne K (.ref C) cv = some b) : EvP R (tCB (rIsX K) (tCons ta (tCons tb tNil))) σ H (Is (.bl b)) :=
  ev_cb (ea_is h (ea_is hb ea_nil)) fun vs H1 g ps Q q => by
    cases psOk2 ps
    exact ⟨a, C, c, cv, b, rfl, hx H1 g, T, k, e, q _ H1 g.at rfl⟩
theorem ev_flX {dx : Addr} {fs : List (Str × V)} (h : EvP R te σ H (Is (.ref a))) (T : XcC K C) (hn : PySem.W.findIn K (.ref C) z = some none) (h1 : Al R (fun H' => H' a = some (exo a C (some dx)) ∧ H' dx = some (exd dx fs)) H) (l : fs.lookup z = some v) : EvP R (tFlX K z te) σ H (Is v) := fun H1 g Q q =>
  h H1 g _ fun u H2 g2 e => ⟨a, C, dx, fs, v, e, T, hn, (h1 H2 (g.trans g2)).1, (h1 H2 (g.trans g2)).2, l, q v H2 g2 rfl⟩
theorem ev_sum {ns : List Int} (h : EvP R ta σ H (LstN R (ns.map V.int))) : EvP R (tCB (rSum K) (tCons ta tNil)) σ H (Is (.int ns.sum)) := fun H1 g Q q =>
  h H1 g _ fun u H2 g2 ⟨p, e, hp, _⟩ => ⟨p, ns, by rw [e], .inl (.inl hp), q _ H2 g2 rfl⟩
/-- a for over a list of which something is known -/
theorem s_forL {tu : TS} {D : Ends} {g : TG} {P : List V → VP} (h : EvP R tl σ H (fun u H => ∃ p xs, u = .ref p ∧ P xs u H ∧ H p = some (.lst xs) ∧ (p ∉ R.D ∧ p ∉ R.h))) (gc : Gr R H Hc)
    (k : ∀ p xs H1, Gr R H H1 → Gv R Hc H1 → P xs (.ref p) H1 → ∃ Pv : Nat → L2.St → Hp → Prop, Pv 0 σ H1 ∧ (∀ i σ' H', i ≤ xs.length → Pv i σ' H' → Gr R H1 H') ∧
      (∀ i x σ' H', i < xs.length → Pv i σ' H' → xs[i]? = some x → g x σ' H' fun σ2 H3 => tu { D with nx := Pv (i + 1), ct := Pv (i + 1), bk := D.nx } σ2 H3) ∧ ∀ σ' H', Pv xs.length σ' H' → D.nx σ' H') :
    tFor (iList K tl) g tu D σ Hc := h Hc gc _ fun u H1 a1 ⟨p, xs, e, hP, hp, hd⟩ => by
  subst e
  refine ⟨p, rfl, ⟨xs, .inl (.inl hp)⟩, ?_⟩
  obtain ⟨Pv, h0, h1, h2, h3⟩ := k p xs H1 (gc.trans a1) a1 hP
  refine for_it walk_list Pv h0 (fun i σ' H' hi pv => .inl (.inl ((h1 i σ' H' hi pv).2 p _ hp hd.1 hd.2))) (fun i x σ' H' H'' hi pv y => ?_) h3
  obtain ⟨y1, y2⟩ := y
  subst y1
  exact h2 i x σ' _ hi pv y2
end
end Fk

/-! Forkpolls: data that is shown; lists of bools. -/
namespace Fk
open PySem PySem.Spec PyProof.Rows L2
section
variable {K : PySem.W.Frag} {R : Res} {σ : L2.St} {H Hc : Hp} {t : TT} {D : Ends} {tu : TS}
theorem s_ifK {b : Bool} (J : Hp → Prop) (k : ∀ H5, J H5 → D.nx σ H5) (h : EvT R t σ H b) (g : Gr R H Hc) (h1 : b = true → ∀ H1, Gr R H H1 → Gv R Hc H1 → (∀ H5, J H5 → D.nx σ H5) → tu D σ H1) (h2 : b = false → ∀ H1, Gr R H H1 → Gv R Hc H1 → J H1) : tIfS t tu tNext D σ Hc :=
  s_if1 h g (fun hb H1 a b => h1 hb H1 a b k) fun hb H1 a b => k H1 (h2 hb H1 a b)
end
def dBools (bs : List Bool) : PyData := .list (bs.map PyData.bool)
theorem dpAll_bools {K : PySem.W.Frag} {H : Hp} : ∀ bs : List Bool, DpAll K H (bs.map V.bl) (bs.map PyData.bool)
  | [] => .nil
  | b :: bs => .cons (.bl b) (dpAll_bools bs)
theorem ev_boolsD {K : PySem.W.Frag} {R : Res} {σ : L2.St} {H : Hp} {te : TE} {bs : List Bool} (h : EvP R te σ H (LstN R (bs.map V.bl))) : EvP R te σ H (Rp K R (dBools bs)) := ev_imp h fun u H' g ⟨p, e, hp, hd⟩ => e ▸ fun H2 g2 => .lst (.inl (.inl (g2.2 p _ hp hd.1 hd.2))) (dpAll_bools bs)
/-- it can be shown -/
structure OkD (d : PyData) : Prop where
  s : d.showable = true
  n : d.hasDict = false
  l : d.shown.length ≤ sizeLine
  p : d.depth ≤ 50
theorem okD_of {d : PyData} (l : PyData.layable0 d = true) (i : PyData.intsShort 13 d = true) (s : d.showable = true) (n : d.hasDict = false) (h : d.depth ≤ 50) : OkD d := ⟨s, n, PyData.shown_fits_of_layable0 (B := 13) (by decide) (by decide) l i, h⟩
theorem ev_reprD {K : PySem.W.Frag} {R : Res} {σ : L2.St} {H : Hp} {te : TE} {d : PyData} (ok : OkD d) (h : EvP R te σ H (Rp K R d)) : EvP R (tCB (rReprD K) (tCons te tNil)) σ H (Is (.str d.shown)) := ev_cb (ea_cons stb_rp h ea_nil) fun vs H1 g ps Q q => by
  match vs, ps with
  | [u], ⟨hu, _⟩ => exact ⟨u, d, rfl, hu.now g.1, ok.s, ok.n, ok.p, ok.l, q _ H1 g.at rfl⟩
theorem log_lt {i : Int} (h : i.natAbs < 2 ^ 30) : i.natAbs.log2 < 30 := by
  by_cases z : i.natAbs = 0
  · rw [z]; decide
  · exact (Nat.log2_lt z).mpr h
theorem int_ok {i : Int} (h : i.natAbs < 2 ^ 30) : (PyData.int i).showable = true ∧ PyData.weight (.int i) ≤ 31 ∧ (PyData.shown (.int i)).length ≤ 13 := by
  have l := log_lt h
  refine ⟨decide_eq_true (by omega), ?_, PyData.shown_int_le (by omega)⟩
  show (if i == 0 then 0 else i.natAbs.log2 + 1) ≤ 31
  split <;> omega
theorem lay_of {d : PyData} (c : d.canLay0 = true) (h : d.depth ≤ 64) (w : d.weight ≤ 2 ^ 20) : PyData.layable0 d = true := by
  show (d.canLay0 && decide (d.depth ≤ 64) && decide (d.weight ≤ 2 ^ 20)) = true
  rw [c, decide_eq_true h, decide_eq_true w]
  rfl
theorem okD_int {i : Int} (h : i.natAbs < 2 ^ 30) : OkD (.int i) := by
  obtain ⟨a, b, c⟩ := int_ok h
  exact okD_of (lay_of rfl (Nat.zero_le 64) (by omega)) (decide_eq_true c) a rfl (Nat.zero_le 50)
theorem okD_tup {i : Int} (h : i.natAbs < 2 ^ 30) : OkD (.tuple [.int i, .none]) := by
  obtain ⟨a, b, c⟩ := int_ok h
  refine okD_of (lay_of rfl (show 1 ≤ 64 by decide) ?_) ?_ ?_ rfl (show 1 ≤ 50 by decide)
  · show PyData.weight (.int i) + 1 + (0 + 1 + 0) ≤ 2 ^ 20
    omega
  · show (decide ((PyData.shown (.int i)).length ≤ 13) && (true && true)) = true
    rw [decide_eq_true c]
    rfl
  · show (PyData.showable (.int i) && (true && true)) = true
    rw [a]
    rfl
theorem okD_lst {i : Int} (h : i.natAbs < 2 ^ 30) : OkD (.list [.int i, .list [.int 1], .int 7]) := by
  obtain ⟨a, b, c⟩ := int_ok h
  have w1 := (int_ok (i := 1) (by decide)).2.1
  have w7 := (int_ok (i := 7) (by decide)).2.1
  refine okD_of (lay_of rfl (show 2 ≤ 64 by decide) ?_) ?_ ?_ rfl (show 2 ≤ 50 by decide)
  · show PyData.weight (.int i) + 1 + ((PyData.weight (.int 1) + 1 + 0) + 1 + (PyData.weight (.int 7) + 1 + 0)) ≤ 2 ^ 20
    omega
  · show (decide ((PyData.shown (.int i)).length ≤ 13) && ((decide ((PyData.shown (.int 1)).length ≤ 13) && true) && (decide ((PyData.shown (.int 7)).length ≤ 13) && true))) = true
    rw [decide_eq_true c, decide_eq_true (int_ok (i := 1) (by decide)).2.2, decide_eq_true (int_ok (i := 7) (by decide)).2.2]
    rfl
  · show (PyData.showable (.int i) && ((PyData.showable (.int 1) && true) && (PyData.showable (.int 7) && true))) = true
    rw [a]
    decide
theorem okD_7 : OkD (.list [.int 7]) := ⟨by decide, rfl, by decide +kernel, by decide⟩
theorem okD_non : OkD .none := ⟨rfl, rfl, by decide +kernel, by decide⟩
theorem okD_true : OkD (.bool true) := ⟨rfl, rfl, by decide +kernel, by decide⟩
theorem okD_empty : OkD (.str "") := ⟨rfl, rfl, by decide +kernel, by decide⟩
theorem okD_mark : OkD (.str "mark") := ⟨rfl, rfl, by decide +kernel, by decide⟩
end Fk

/-! Forkpolls: raising and catching. -/
namespace Fk
open PySem PySem.Spec PyProof.Rows L2
section
variable {P : Program} {w : World} {K : PySem.W.Frag} {mg : Str → Option Value} {base : Heap} {CX : CXT} {k : Nat} {f : Addr} {fd : FuncData} {ps : List Str} {sp : Sp}
/-- what lets nothing out may be called anywhere -/
theorem fn_any (F : FnOk P w K mg base CX0 k f fd ps sp) : FnOk P w K mg base CX k f fd ps sp := by
  refine ⟨F.len, fun A outer s H args us vs Q E hr e0 hb r h => codeAny_mono (F.run A outer s H args us vs Q E hr e0 hb r h) fun r s' z => ?_⟩
  cases r with
  | error e => exact False.elim z
  | ok fl => cases fl <;> exact z
/-- either promise -/
theorem fn_or {sp2 : Sp} (F : FnOk P w K mg base CX k f fd ps sp) (G : FnOk P w K mg base CX k f fd ps sp2) : FnOk P w K mg base CX k f fd ps (fun vs H Q E => sp vs H Q E ∨ sp2 vs H Q E) :=
  ⟨fun vs H Q E h => h.elim (F.len vs H Q E) (G.len vs H Q E), fun A outer s H args us vs Q E hr e0 hb r h => h.elim (F.run A outer s H args us vs Q E hr e0 hb r) (G.run A outer s H args us vs Q E hr e0 hb r)⟩
end
section
variable {X : Cx} {CX : CXT} {k : Nat} {f C : Addr} {fd : FuncData} {ps : List Str} {sp : Sp} {E : L2.St → XK} {x : Str} {p pos : Pos} {e : Expr} {es : List Expr} {t : TA}
/-- C(..), its __init__ may raise; what is let out may hang on the names as they stand -/
def tMakeS (C : Addr) (sp : Sp) (E : L2.St → XK) (t : TA) : TE := fun σ H Q => t σ H fun vs H1 => ∀ x dx, H1 x = none → H1 dx = none → dx ≠ x → sp (.ref x :: vs) (upd (upd H1 dx (.own x)) x (.ins C dx [])) (fun v H2 => v = .non ∧ Q (.ref x) H2) (E σ)
theorem pe_makeS (M : Mk X.K C f) (F : FnOk X.prog X.w X.K X.mg X.base CX k f fd ps sp) (hr : Room (k + 1) X.A) (hm : X.mg x = some (.ref C)) (hb : Binds X.K fd ps []) (hx : ∀ σ, PassesAt CX X σ (E σ)) (ha : PA X (e :: es) t) (hg : Gl X x := by rfl)
    (hdb : (x == ("__debug__" : Str)) = false := by decide) (he : starEach (e :: es) X.env = (false, eval e X.env) :: starEach es X.env := by rfl) (hpl : (backTo pos (starEach es X.env)).any (·.1) = false := by rfl) : PE X (.Call (.Name x p) (e :: es) [] pos) (tMakeS C sp E t) := by
  refine ⟨fun pins s σ H Q I h => ?_⟩
  refine wpAny_Call_Name_kw (ld_glob I hg hm ?_ hdb)
  refine PySem.W.callWith_K (h₀ := X.base) I.ok.mod.kin M.kp (thn (ha.run pos pins s σ H _ I h) fun us s1 ⟨vs, H1, I1, r, q⟩ => ⟨I1.kIn, ?_⟩) he hpl
  have hq := q (s1.heap.objs.size + 1) s1.heap.objs.size (I1.hok.fresh (Nat.le_succ _)) (I1.hok.fresh (Nat.le_refl _)) (Nat.ne_of_lt (Nat.lt_succ_self _))
  have I2 := Inv.made (C := C) I1
  have r2 : Vals (V.ref (s1.heap.objs.size + 1) :: vs) (Value.ref (s1.heap.objs.size + 1) :: us) := .cons rfl r
  have hl : (Value.ref (s1.heap.objs.size + 1) :: us ++ []).length = ps.length := by
    have z := r2.length
    rw [F.len _ _ _ _ hq] at z
    rw [List.append_nil]
    exact z.symm
  have b := hb _ (Value.ref (s1.heap.objs.size + 1) :: us) I2.kIn hl
  rw [List.append_nil] at b
  refine wpAny_call (make_map (f := f) I1.kIn M.makes M.init (beq_iff_eq.mp M.fn) (codeAny_mono (F.run _ X.stack _ _ ⟨Value.ref (s1.heap.objs.size + 1) :: us, []⟩ (Value.ref (s1.heap.objs.size + 1) :: us) _ _ (E σ) (hr.make C us []) (I2.env0.make C us []) b r2 hq) fun r s' z => ?_))
  cases r with
  | error er => exact hx σ pins _ _ er s' I2 z
  | ok fl =>
    cases fl with
    | ret u =>
      obtain ⟨v, H', I3, rv, ev, q3⟩ := I2.after z
      subst ev
      exact ⟨rv, ⟨V.ref (s1.heap.objs.size + 1), H', I3, rfl, q3⟩⟩
    | next => exact False.elim z
    | brk => exact False.elim z
    | cont => exact False.elim z
end
/-! ### the exception that a suite holds -/
section
variable {X : Cx} {a C : Addr} {oe : Obj} {cls : Value} {d : Option Addr} {pn : List (Addr × Obj)}
/-- isinstance(e, c), e with its dict -/
def rIsH (K : PySem.W.Frag) (a : Addr) (cls : Value) (d : Option Addr) : List V → Hp → VK → Prop := fun xs H Q => ∃ (C dd : Addr) (fs : List (Str × V)) (c : V) (cv : Value) (b : Bool), xs = [.ref a, c] ∧ cls = .ref C ∧ d = some dd ∧ H dd = some (.xd fs) ∧ ExcC K C ∧ ClsV c cv ∧ PySem.W.kitOne K (.ref C) cv = some b ∧ Q (.bl b) H
theorem call_isH (hz : Zc cls d oe) (hf : ∃ vs, oe.data = .fields vs) : CallR (X.suite a ((a, oe) :: pn)) (.builtin "isinstance") (rIsH X.K a cls d) := by
  intro pins s σ H xs us Q I r h
  obtain ⟨C, dd, fs, c, cv, b, rfl, rfl, rfl, hx, T, hc, e, q⟩ := h
  obtain ⟨u1, u2, rfl, r1, r2⟩ := vals2 r
  cases r1
  have ec := hc.eq r2
  subst ec
  obtain ⟨hget, _⟩ := I.pin (a, oe) (List.mem_append.mpr (.inl List.mem_cons_self))
  obtain ⟨vs, hv⟩ := hf
  obtain ⟨mA, hns, hr⟩ : ObjOk X.prog X.w H s.heap dd (.xd fs) := I.hok dd _ hx
  obtain ⟨od, ho, _⟩ := lookIn_ns hns
  have J : PySem.W.InstAt s.heap a oe C (some od) := ⟨hget, hz.1, by unfold PySem.W.notCls; rw [hv] <;> rfl, by rw [hz.2]; exact ho⟩
  have cl : (PySem.W.clsIn X.K C).isSome = true := by
    obtain ⟨cd, h, _⟩ := PySem.W.any_some T.hd
    rw [h]
    rfl
  exact PySem.W.kia_one (PySem.W.kitx_exc cl T.hg T.hk T.hs T.ha T.hn T.ht T.hm) I.kIn J e (fun z => nomatch z) fun tk => ⟨.bl b, H, I.kept (t' := tk) fun _ _ z => z, rfl, q⟩
end
end Fk

/-! Forkpolls: data of any kind as arguments. -/
namespace Fk
open PySem PySem.Spec PyProof.Rows L2
def tyD : PyData → String
  | .none => "NoneType"
  | .bool _ => "bool"
  | .int _ => "int"
  | .str _ => "str"
  | .list _ => "list"
  | .tuple _ => "tuple"
  | .dict _ => "dict"
section
variable {K : PySem.W.Frag} {R : Res} {H : Hp} {v : V} {d : PyData}
theorem ty_dp (h : Dp K H v d) : TyX K H v (.type (tyD d)) := by
  cases h with
  | non => exact .base .non
  | bl b => exact .base (.bl b)
  | int i => exact .base (.int i)
  | str z => exact .base (.str z)
  | lst h _ =>
    rcases h with (h | ⟨o, h⟩) | ⟨o, its, n, h, c, _⟩
    · exact .base (.lst h)
    · exact .base (.frz h)
    · exact .kList h c
  | tup h _ =>
    rcases h with (h | ⟨o, h⟩) | ⟨o, its, n, h, c, _⟩
    · exact .base (.tup h)
    · exact .fTuple h
    · exact .kTuple h c
theorem ty_rp (h : Rp K R d v H) : Al R (fun H' => TyX K H' v (.type (tyD d))) H := fun H' g => ty_dp (h H' g)
def isID : PyData → Bool
  | .int _ => true
  | _ => false
def isBD : PyData → Bool
  | .bool _ => true
  | _ => false
def isSD : PyData → Bool
  | .str _ => true
  | _ => false
theorem kitD_int : ∀ d : PyData, PySem.W.kitOne K (.type (tyD d)) (.type "int") = some (isID d || isBD d)
  | .none => kit_ty (show kitB "NoneType" "int" = some false by decide +kernel)
  | .bool _ => kit_ty (show kitB "bool" "int" = some true by decide +kernel)
  | .int _ => kit_ty (show kitB "int" "int" = some true by decide +kernel)
  | .str _ => kit_ty (show kitB "str" "int" = some false by decide +kernel)
  | .list _ => kit_ty (show kitB "list" "int" = some false by decide +kernel)
  | .tuple _ => kit_ty (show kitB "tuple" "int" = some false by decide +kernel)
  | .dict _ => kit_ty (show kitB "dict" "int" = some false by decide +kernel)
theorem kitD_bool : ∀ d : PyData, PySem.W.kitOne K (.type (tyD d)) (.type "bool") = some (isBD d)
  | .none => kit_ty (show kitB "NoneType" "bool" = some false by decide +kernel)
  | .bool _ => kit_ty (show kitB "bool" "bool" = some true by decide +kernel)
  | .int _ => kit_ty (show kitB "int" "bool" = some false by decide +kernel)
  | .str _ => kit_ty (show kitB "str" "bool" = some false by decide +kernel)
  | .list _ => kit_ty (show kitB "list" "bool" = some false by decide +kernel)
  | .tuple _ => kit_ty (show kitB "tuple" "bool" = some false by decide +kernel)
  | .dict _ => kit_ty (show kitB "dict" "bool" = some false by decide +kernel)
theorem kitD_str : ∀ d : PyData, PySem.W.kitOne K (.type (tyD d)) (.type "str") = some (isSD d)
  | .none => kit_ty (show kitB "NoneType" "str" = some false by decide +kernel)
  | .bool _ => kit_ty (show kitB "bool" "str" = some false by decide +kernel)
  | .int _ => kit_ty (show kitB "int" "str" = some false by decide +kernel)
  | .str _ => kit_ty (show kitB "str" "str" = some true by decide +kernel)
  | .list _ => kit_ty (show kitB "list" "str" = some false by decide +kernel)
  | .tuple _ => kit_ty (show kitB "tuple" "str" = some false by decide +kernel)
  | .dict _ => kit_ty (show kitB "dict" "str" = some false by decide +kernel)
/-- isinstance(data, a built-in class) -/
theorem ev_isD {σ : L2.St} {ta tb : TE} {n : String} {b : Bool} (h : EvP R ta σ H (Rp K R d)) (hb : EvP R tb σ H (Is (.ty n))) (k : PySem.W.kitOne K (.type (tyD d)) (.type n) = some b) : EvP R (tCB (rIsi K) (tCons ta (tCons tb tNil))) σ H (Is (.bl b)) :=
  ev_cb (ea_cons stb_rp h (ea_is hb ea_nil)) fun vs H1 g ps Q q => by
    match vs, ps with
    | [u, c], ⟨hu, e, _⟩ =>
      cases e
      exact ⟨u, .ty n, _, _, b, rfl, .ty n, ty_dp (hu.now g.1), k, q _ H1 g.at rfl⟩
end
/-! ### in a tuple, over data -/
section
variable {X : Cx}
def rInDT (K : PySem.W.Frag) : R2 := fun x y H Q => ∃ d ds, Dp K H x d ∧ Dp K H y (.tuple ds) ∧ SeqAt.shaped d = true ∧ SeqAt.shaped (.tuple ds) = true ∧ Q (.bl (ds.any fun z => PyData.eqv z d)) H
theorem op_inDT (hu : X.A.units + 65 < cLine) : OpR X (compareOp .In) (rInDT X.K) := by
  intro pins s σ H x y v u Q I rx ry h
  obtain ⟨d, ds, hd, he, sd, se, q⟩ := h
  obtain ⟨as, r1⟩ := Dp.reads I d x v hd rx
  obtain ⟨bs, r2⟩ := Dp.reads I (.tuple ds) y u he ry
  exact SeqAt.in_tuple_reads r2 r1 (SeqAt.canLay_of_shaped se) (SeqAt.canLay_of_shaped sd) (PyProof.Rows.room_in_shaped sd hu) ⟨.bl _, H, I, rfl, q⟩
end
section
variable {K : PySem.W.Frag} {R : Res} {σ : L2.St} {H : Hp} {ta tb : TE} {d : PyData} {ds : List PyData}
theorem ev_inDT (sd : SeqAt.shaped d = true) (se : SeqAt.shaped (.tuple ds) = true) (ha : EvP R ta σ H (Rp K R d)) (hb : EvP R tb σ H (Rp K R (.tuple ds))) : EvP R (tOp (rInDT K) ta tb) σ H (Is (.bl (ds.any fun z => PyData.eqv z d))) :=
  ev_op stb_rp ha hb fun x y H1 g hx hy Q q => ⟨d, ds, hx.now g.1, hy.now g.1, sd, se, q _ H1 (Gv.refl g.1) rfl⟩
theorem ev_inDL (sd : SeqAt.shaped d = true) (se : SeqAt.shaped (.list ds) = true) (ha : EvP R ta σ H (Rp K R d)) (hb : EvP R tb σ H (Rp K R (.list ds))) : EvP R (tOp (rInD K) ta tb) σ H (Is (.bl (ds.any fun z => PyData.eqv z d))) :=
  ev_op stb_rp ha hb fun x y H1 g hx hy Q q => ⟨d, ds, hx.now g.1, hy.now g.1, sd, se, q _ H1 (Gv.refl g.1) rfl⟩
end
/-- strings of it are short, and it can be compared -/
structure ArgD (d : PyData) : Prop where
  sh : SeqAt.shaped d = true
  st : ∀ z, d = .str z → z.length ≤ 1000
def nameD : PyData → Bool
  | .str z => nameS z
  | _ => false
def addD : PyData → Bool
  | .int i => addOk i
  | _ => false
def inS (ws : List Str) (d : PyData) : Bool := ws.any fun z => PyData.eqv (.str z) d
theorem shapedT_strs (zs : List Str) (h : ∀ z, z ∈ zs → PyData.strOk z = true) : SeqAt.shaped (.tuple (zs.map PyData.str)) = true := by
  have h1 : PyData.canLayAll0 (zs.map PyData.str) = true := canLay_strs zs h
  have h2 : (PyData.tuple (zs.map PyData.str)).depth ≤ 1 := depth_strs zs
  show (PyData.canLayAll0 (zs.map PyData.str) && decide ((PyData.tuple (zs.map PyData.str)).depth ≤ 64)) = true
  rw [h1, decide_eq_true (by omega)]
  rfl
theorem any_strs (zs : List Str) (d : PyData) : ((zs.map PyData.str).any fun z => PyData.eqv z d) = inS zs d := by
  unfold inS
  rw [List.any_map]
  rfl
theorem ev_tupStrs {K : PySem.W.Frag} {R : Res} {σ : L2.St} {H : Hp} {te : TE} {zs : List Str} (h : EvP R te σ H (IsU K R (zs.map V.str))) : EvP R te σ H (Rp K R (.tuple (zs.map PyData.str))) := ev_imp h fun u H' g ⟨p, e, hp⟩ => e ▸ fun H2 g2 => .tup (hp H2 g2) (dpAll_strs zs)
end Fk

/-! Forkpolls: an own exception class over ValueError that is raised. -/
namespace Fk
open PySem PySem.Spec PyProof.Rows L2
theorem oexVE {K : PySem.W.Frag} {nm q : Str} {C N : Addr} {bs bm : List Value} {sn : List Str} {sub : List Value} {ab : Bool} {col : Option Bool} {dd : Option Addr} {k0 k1 k2 k3 k5 : Option Value} (l : K.lookup C = some (excClassObj nm q C N bs bm true sn sub ab col dd k0 k1 k2 k3 k5 "ValueError.__new__")) (p : xpassVE bm = true)
    (sa : PySem.W.findIn K (.ref C) "__setattr__" = some (some (.builtin "object.__setattr__"))) (ex : PySem.W.subIn K (.ref C) (.type "BaseException") = some true) (ty : PySem.W.typeIn K (.ref C) = some (.type "type")) (kC : PySem.W.keepIn K (.ref C) = true) : OexC K C := ⟨⟨nm, q, N, bs, bm, sn, sub, ab, col, dd, k0, k1, k2, k3, k5, l, p⟩, sa, ex, ty, kC⟩
theorem room65 {k : Nat} {A : Around} (r : Room k A) : A.units + 65 < cLine := by
  have := r.un
  omega
end Fk

/-! Forkpolls: calls that may raise. -/
namespace Fk
open PySem PySem.Spec PyProof.Rows L2
section
variable {X : Cx} {CX : CXT} {k j : Nat} {x : Str} {sp : Sp} {E : L2.St → XK} {p pos : Pos} {e : Expr} {es : List Expr} {t : TA}
theorem pe_calS (c : CalX X.prog X.w X.K X.mg X.base CX k x sp) (hr : Room j X.A) (hk : k ≤ j) (hx : ∀ σ, PassesAt CX X σ (E σ)) (ha : PA X (e :: es) t) (hg : Gl X x := by rfl) (hdb : (x == ("__debug__" : Str)) = false := by decide)
    (he : starEach (e :: es) X.env = (false, eval e X.env) :: starEach es X.env := by rfl) (hpl : (backTo pos (starEach es X.env)).any (·.1) = false := by rfl) : PE X (.Call (.Name x p) (e :: es) [] pos) (tCallS sp E t) := by
  obtain ⟨f, fd, ps, F, g, kp, b⟩ := c
  exact pe_callS F (hr.mono hk) hg g kp b hx ha hdb he hpl
end
theorem s_dropS {R : Res} {σ : L2.St} {H Hc : Hp} {D : Ends} {sp : Sp} {E : L2.St → XK} {t : TA} {Ps : List VP} (h : EvA R t σ H Ps) (g : Gr R H Hc) (k : ∀ vs H1, Gr R H H1 → Gv R Hc H1 → PsOk Ps vs H1 → sp vs H1 (fun _ H2 => D.nx σ H2) (E σ)) : tDrop (tCallS sp E t) D σ Hc := h Hc g _ fun vs H1 g1 ps => k vs H1 (g.trans g1) g1 ps
/-- data stand while one instance changes -/
theorem dpq_add {K : PySem.W.Frag} {H : Hp} {a C dx : Addr} {fs : List (Str × V)} {v : V} {d : PyData} (ha : H a = some (.ins C dx fs)) (h : Dp K H v d) : Rp K (Free.add a) d v H := by
  have sq : ∀ {p : Addr} {o : HO}, H p = some o → (∀ C dx fs, o ≠ .ins C dx fs) → ∀ H', Gr (Free.add a) H H' → H' p = some o := fun {p o} hp ho H' g => g.2 p o hp List.not_mem_nil (fun z => by
    have e : p = a := by simpa [Res.add, Free] using z
    rw [e, ha] at hp
    exact ho _ _ _ (Option.some.inj hp).symm)
  have key : ∀ (d : PyData) (v : V), Dp K H v d → ∀ H', Gr (Free.add a) H H' → Dp K H' v d := by
    intro d
    refine PyData.rec (motive_1 := fun d => ∀ v, Dp K H v d → ∀ H', Gr (Free.add a) H H' → Dp K H' v d) (motive_2 := fun ds => ∀ vs, DpAll K H vs ds → ∀ H', Gr (Free.add a) H H' → DpAll K H' vs ds) (motive_3 := fun _ => True) (motive_4 := fun _ => True) ?_ ?_ ?_ ?_ ?_ ?_ ?_ ?_ ?_ ?_ ?_ ?_ d
    all_goals first
      | exact True.intro
      | (intros; exact True.intro)
      | skip
    · intro v h H' g; cases h; exact .non
    · intro b v h H' g; cases h; exact .bl b
    · intro i v h H' g; cases h; exact .int i
    · intro z v h H' g; cases h; exact .str z
    · intro ds ih v h H' g
      cases h with
      | lst h1 h2 =>
        refine .lst ?_ (ih _ h2 H' g)
        rcases h1 with (h1 | ⟨o, h1⟩) | h1
        · exact .inl (.inl (sq h1 (fun _ _ _ z => nomatch z) H' g))
        · exact .inl (.inr ⟨o, sq h1 (fun _ _ _ z => nomatch z) H' g⟩)
        · exact .inr h1
    · intro ds ih v h H' g
      cases h with
      | tup h1 h2 =>
        refine .tup ?_ (ih _ h2 H' g)
        rcases h1 with (h1 | ⟨o, h1⟩) | h1
        · exact .inl (.inl (sq h1 (fun _ _ _ z => nomatch z) H' g))
        · exact .inl (.inr ⟨o, sq h1 (fun _ _ _ z => nomatch z) H' g⟩)
        · exact .inr h1
    · intro kvs _ v h H' g; cases h
    · intro vs h H' g; cases h; exact .nil
    · intro d ds i1 i2 vs h H' g
      cases h with
      | cons h1 h2 => exact .cons (i1 _ h1 H' g) (i2 _ h2 H' g)
  exact fun H' g => key d v h H' g
end Fk

/-! Forkpolls: data that is drawn; a comprehension of a drawn number of turns. -/
namespace Fk
open PySem PySem.Spec PyProof.Rows L2
theorem ev_intsD {K : PySem.W.Frag} {R : Res} {σ : L2.St} {H : Hp} {te : TE} {zs : List Int} (h : EvP R te σ H (LstN R (zs.map V.int))) : EvP R te σ H (Rp K R (dInts zs)) := ev_imp h fun u H' g ⟨p, e, hp, hd⟩ => e ▸ fun H2 g2 => .lst (.inl (.inl (g2.2 p _ hp hd.1 hd.2))) (dpAll_ints zs)
theorem call_isiK {X : Cx} {K : PySem.W.Frag} (h : X.K = K) : CallR X (.builtin "isinstance") (rIsi K) := h ▸ call_isi
/-- a test of which nothing is known -/
def EvB (R : Res) (t : TT) (σ : L2.St) (H : Hp) : Prop := ∀ H1, Gr R H H1 → ∀ Q : Bool → Hp → Prop, (∀ b H2, Gv R H1 H2 → Q b H2) → t σ H1 Q
section
variable {R : Res} {σ : L2.St} {H Hc : Hp} {t u : TT} {te ta tb : TE} {D : Ends} {tu tw : TS} {P : VP}
theorem eb_of {b : Bool} (h : EvT R t σ H b) : EvB R t σ H := fun H1 g Q q => h H1 g Q fun H2 g2 => q b H2 g2
theorem eb_test (h : EvP R te σ H fun v _ => ∃ b, v = .bl b) : EvB R (tTest te) σ H := fun H1 g Q q => h H1 g _ fun v H2 g2 ⟨b, e⟩ => ⟨b, e, q b H2 g2⟩
theorem eb_and (h1 : EvB R t σ H) (h2 : EvB R u σ H) : EvB R (tAnd t u) σ H := fun H1 g Q q => h1 H1 g _ fun b H2 g2 => by
  cases b with
  | true => exact (if_pos rfl).mpr (h2 H2 (g.trans g2) Q fun b H3 g3 => q b H3 (g2.trans g3))
  | false => exact (if_neg Bool.false_ne_true).mpr (q false H2 g2)
theorem s_ifB (h : EvB R t σ H) (g : Gr R H Hc) (h1 : ∀ H1, Gr R H H1 → Gv R Hc H1 → tu D σ H1) (h2 : ∀ H1, Gr R H H1 → Gv R Hc H1 → tw D σ H1) : tIfS t tu tw D σ Hc := h Hc g _ fun b H1 g1 => by
  cases b with
  | true => exact (if_pos rfl).mpr (h1 H1 (g.trans g1) g1)
  | false => exact (if_neg Bool.false_ne_true).mpr (h2 H1 (g.trans g1) g1)
theorem ev_ifB (h : EvB R t σ H) (h1 : EvP R ta σ H P) (h2 : EvP R tb σ H P) : EvP R (tIf t ta tb) σ H P := fun H1 g Q q => h H1 g _ fun b H2 g2 => by
  cases b with
  | true => exact (if_pos rfl).mpr (h1 H2 (g.trans g2) Q fun v H3 g3 => q v H3 (g2.trans g3))
  | false => exact (if_neg Bool.false_ne_true).mpr (h2 H2 (g.trans g2) Q fun v H3 g3 => q v H3 (g2.trans g3))
end
/-- of this depth, to be compared, its texts short -/
structure TD (n : Nat) (d : PyData) : Prop where
  c : d.canLay0 = true
  p : d.depth ≤ n
  s : ∀ z, d = .str z → z.length ≤ 1000
theorem TD.arg {n : Nat} {d : PyData} (h : TD n d) (hn : n ≤ 64) : ArgD d := by
  refine ⟨?_, h.s⟩
  show (d.canLay0 && decide (d.depth ≤ 64)) = true
  rw [h.c, decide_eq_true (Nat.le_trans h.p hn)]
  rfl
theorem td_all {n : Nat} : ∀ {ds : List PyData}, (∀ d, d ∈ ds → TD n d) → PyData.canLayAll0 ds = true ∧ PyData.depthAll ds ≤ n
  | [], _ => ⟨rfl, Nat.zero_le _⟩
  | d :: ds, h => by
    obtain ⟨i1, i2⟩ := td_all fun e he => h e (List.mem_cons_of_mem _ he)
    have hd := h d List.mem_cons_self
    refine ⟨?_, ?_⟩
    · show (d.canLay0 && PyData.canLayAll0 ds) = true
      rw [hd.c, i1]
      rfl
    · have := hd.p
      simp only [PyData.depthAll]
      omega
theorem td_list {n : Nat} {ds : List PyData} (h : ∀ d, d ∈ ds → TD n d) : TD (n + 1) (.list ds) ∧ TD (n + 1) (.tuple ds) := by
  obtain ⟨a, b⟩ := td_all h
  refine ⟨⟨a, ?_, fun z e => nomatch e⟩, ⟨a, ?_, fun z e => nomatch e⟩⟩ <;> (simp only [PyData.depth]; omega)
def tdB (v : V) : Bool := flatV v && (PyData.canLay0 (toD v) && decide ((toD v).depth ≤ 0) && (match v with | .str z => decide (z.length ≤ 1000) | _ => true))
theorem td_flat {xs : List V} (h : xs.all tdB = true) {v : V} (hv : v ∈ xs) : flatV v = true ∧ TD 0 (toD v) := by
  obtain ⟨a, b⟩ := Bool.and_eq_true_iff.mp (List.all_eq_true.mp h v hv)
  obtain ⟨b, c⟩ := Bool.and_eq_true_iff.mp b
  obtain ⟨b1, b2⟩ := Bool.and_eq_true_iff.mp b
  refine ⟨a, b1, of_decide_eq_true b2, fun z e => ?_⟩
  cases v with
  | str y => cases e; exact of_decide_eq_true c
  | _ => simp [toD] at e
theorem TD.mono {n m : Nat} {d : PyData} (h : TD n d) (k : n ≤ m) : TD m d := ⟨h.c, Nat.le_trans h.p k, h.s⟩
/-- a list that is new since H -/
theorem ev_lstW {R : Res} {σ : L2.St} {H : Hp} {ts : TA} {Ps : List VP} (s : ∀ P, P ∈ Ps → Stb R P) (h : EvA R ts σ H Ps) (hl : Ps.length ≤ 1000) : EvP R (tLst ts) σ H (fun u H' => ∃ p xs, u = .ref p ∧ H' p = some (.lst xs) ∧ PsOk Ps xs H' ∧ H p = none) := fun H1 g Q q =>
  h H1 g _ fun vs H2 g2 ps => ⟨by rw [psOk_len ps]; exact small hl, fun p hp => q _ _ (g2.trans (Gv.new g2.1.1 hp)) ⟨p, vs, rfl, upd_same, psOk_stb s (Gv.new g2.1.1 hp).1 ps, (g.trans g2).back hp⟩⟩
/-- v shows d by what is new since H0 -/
def RpN (K : PySem.W.Frag) (H0 : Hp) (d : PyData) (v : V) (H' : Hp) : Prop := ∀ H2, (∀ x o, H0 x = none → H' x = some o → H2 x = some o) → Dp K H2 v d
theorem rpN_rp {K : PySem.W.Frag} {R : Res} {H0 H' : Hp} {d : PyData} {v : V} (j : R.J H0) (h : RpN K H0 d v H') : Rp K R d v H' := fun H2 g => h H2 fun x o n e => g.2 x o e (off j n).1 (off j n).2
/-- a source of at most N turns -/
def EvU (R : Res) (wi : TI) (σ : L2.St) (H : Hp) (N : Nat) (Y : Nat → Hp → V → Hp → Prop) : Prop :=
  ∀ H1, Gr R H H1 → ∀ Z : It → Hp → Prop, (∀ J n H2 G, n ≤ N → Gv R H1 H2 → Walk J n G Y → Al R G H2 → Z J H2) → wi σ H1 Z
section
variable {K : PySem.W.Frag} {R : Res} {σ : L2.St} {H : Hp} {te : TE} {tt : TT} {wi : TI} {N : Nat} {Y : Nat → Hp → V → Hp → Prop} {vs : List Nat} {ta : TE}
theorem eu_range {m : Int} (h : EvP R ta σ H (fun u _ => ∃ i : Int, u = .int i ∧ 0 ≤ i ∧ i < m)) (hm : m ≤ 100000) : EvU R (iRng1 (tCons ta tNil)) σ H m.toNat (YFn fun i => .int (i : Int)) := fun H1 a Z k =>
  (ea_cons (P := fun u _ => ∃ i : Int, u = .int i ∧ 0 ≤ i ∧ i < m) (fun _ _ _ _ h => h) h ea_nil) H1 a _ fun us H2 a2 ps => by
    match us, ps with
    | [u], ⟨⟨i, e, i0, i1⟩, _⟩ =>
      cases e
      exact ⟨i, rfl, by omega, by omega, k _ i.toNat H2 _ (by omega) a2 (walk_range.mono (fun _ _ => True.intro) fun j H x H' _ _ y => ⟨y.1, y.2.trans (congrArg V.int (Int.zero_add _))⟩) fun _ _ => True.intro⟩
theorem ev_lcU {j : Nat} {Z : Nat → V → Prop} (Pe : Res → VP) (hw : EvU R wi σ H N Y) (hn : N ≤ 1000) (hY : ∀ R' i H x H', Res.J R' H → i < N → Y i H x H' → Gv R' H H' ∧ Z i x)
    (hσ : ∀ x, wipe ((wipe σ vs).set j (some x)) vs = wipe σ vs) (st : ∀ R', Stb R' (Pe R')) (out : ∀ D v H' xs, H' D = some (.lst xs) → (D ∉ R.D ∧ D ∉ R.h) → Pe (R.add D) v H' → Pe R v H')
    (he : ∀ D, H D = none → ∀ i x, i < N → Z i x → EvP (R.add D) te ((wipe σ vs).set j (some x)) H (Pe (R.add D))) :
    EvP R (tLc wi (gName j) tYes te vs) σ H (fun u H => ∃ n, n ≤ N ∧ LsOk R (gl n (fun _ => true) fun _ => Pe R) u H) := fun H0 a0 Q q => hw H0 a0 _ fun J n H1 G hnN a1 W hG => fun D hD => by
  have hd := off a1.1.1 hD
  have hD0 : H D = none := (a0.trans a1).back hD
  have ne : ∀ x, x ∈ R.h → x ≠ D := fun x hx z => hd.2 (by rw [← z]; exact hx)
  have base : ∀ {H2 : Hp}, Gr (R.add D) H1 H2 → Gr (R.add D) H H2 := fun {H2} g => ⟨g.1, fun x o e m k => g.2 x o ((a0.trans a1).2 x o e m fun z => k (List.mem_cons_of_mem _ z)) m k⟩
  refine lc_it W (fun i H' => (Gr (R.add D) H1 H' ∧ ∀ x, x ∈ R.h → H' x = H1 x) ∧ ∃ xs, H' D = some (.lst xs) ∧ PsOk (gl i (fun _ => true) fun _ => Pe (R.add D)) xs H') ⟨⟨add_new a1.1.1 hD, fun x hx => upd_ne (ne x hx)⟩, [], upd_same, True.intro⟩ (fun i H' hi p => hG H' (add_into hD p.1.1)) (fun i x H2 H3 hi p y => ?_) fun H' p => ?_
  · obtain ⟨⟨g2, k2⟩, xs, hx, ps⟩ := p
    obtain ⟨g3, z⟩ := hY (R.add D) i H2 x H3 g2.1 (by omega) y
    refine ⟨hσ x, (et_yes (R := R.add D) (H := H3)) H3 (Gr.refl g3.1.1) _ fun H4 g4 => ?_⟩
    have g34 := g3.trans g4
    have keep : ∀ {A B : Hp}, Gr (R.add D) A B → PsOk (gl i (fun _ => true) fun _ => Pe (R.add D)) xs A → PsOk (gl i (fun _ => true) fun _ => Pe (R.add D)) xs B := fun {A B} g h => psOk_imp (fun k _ v pv => st (R.add D) v A B g pv) h
    have inh : ∀ x, x ∈ R.h → x ∈ (R.add D).h := fun x hx => List.mem_cons_of_mem _ hx
    refine (if_pos rfl).mpr (he D hD0 i x (by omega) z H4 (base (g2.trans g34)) _ fun v H5 g5 pv => ?_)
    have g25 := g34.trans g5
    have hD5 : H5 D = some (.lst xs) := (g25.2 D List.mem_cons_self).trans hx
    have ps5 := keep g25.1 ps
    have gm : Gr (R.add D) H5 (upd H5 D (.lst (xs ++ [v]))) := add_mut hd g5.at.1
    refine ⟨xs, hD5, ?_, ⟨(g2.trans g25).tr gm, fun x hx => (upd_ne (ne x hx)).trans ((g25.2 x (inh x hx)).trans (k2 x hx))⟩, _, upd_same, ?_⟩
    · have := psOk_len ps5
      have := gl_len (n := i) (fun _ => true) (fun _ => Pe (R.add D))
      exact small1000 (by omega)
    · rw [gl_yes rfl]
      exact psOk_snoc (keep gm ps5) (st _ v _ _ gm pv)
  · obtain ⟨⟨g2, k2⟩, xs, hx, ps⟩ := p
    have gr : Gv R H1 H' := ⟨add_into hD g2, k2⟩
    exact q _ _ (a1.trans gr) ⟨n, hnN, D, xs, rfl, hx, hd, psOk_imp (fun i _ v pv => out D v H' xs hx hd pv) ps⟩
end
end Fk

/-! Forkpolls: a caught exception asked and read; list(range(n)); a for over a new list. -/
namespace Fk
open PySem PySem.Spec PyProof.Rows L2
section
variable {X : Cx} {a C : Addr} {oe : Obj} {cls : Value} {d : Option Addr} {pn : List (Addr × Obj)}
/-- isinstance(e, (c1, c2, ..)) -/
def rIsHT (K : PySem.W.Frag) (a : Addr) (cls : Value) (d : Option Addr) : List V → Hp → VK → Prop := fun xs H Q => ∃ (C dd : Addr) (fs : List (Str × V)) (tp : Addr) (cs : List V) (us : List Value) (b : Bool), xs = [.ref a, .ref tp] ∧ cls = .ref C ∧ d = some dd ∧ H dd = some (.xd fs) ∧ ExcC K C ∧ H tp = some (.tup cs) ∧ Paired ClsV cs us ∧ PySem.W.kitAny K (.ref C) us = some b ∧ Q (.bl b) H
theorem call_isHT (hz : Zc cls d oe) (hf : ∃ vs, oe.data = .fields vs) : CallR (X.suite a ((a, oe) :: pn)) (.builtin "isinstance") (rIsHT X.K a cls d) := by
  intro pins s σ H xs us Q I r h
  obtain ⟨C, dd, fs, tp, cs, ws, b, rfl, rfl, rfl, hx, T, hT, k, e, q⟩ := h
  obtain ⟨u1, u2, rfl, r1, r2⟩ := vals2 r
  cases r1
  cases r2
  obtain ⟨hget, _⟩ := I.pin (a, oe) (List.mem_append.mpr (.inl List.mem_cons_self))
  obtain ⟨vs, hv⟩ := hf
  obtain ⟨mA, hns, hr⟩ : ObjOk X.prog X.w H s.heap dd (.xd fs) := I.hok dd _ hx
  obtain ⟨od, ho, _⟩ := lookIn_ns hns
  have J : PySem.W.InstAt s.heap a oe C (some od) := ⟨hget, hz.1, by unfold PySem.W.notCls; rw [hv] <;> rfl, by rw [hz.2]; exact ho⟩
  have cl : (PySem.W.clsIn X.K C).isSome = true := by
    obtain ⟨cd, h, _⟩ := PySem.W.any_some T.hd
    rw [h]
    rfl
  obtain ⟨_, its, rv, o, h1, h2, n, h3⟩ : ObjOk X.prog X.w H s.heap tp (.tup cs) := I.hok tp _ hT
  have e3 := ClsV.all k rv
  subst e3
  obtain ⟨oc, od2, dt, sl⟩ := o
  simp only at h2 h3
  subst h2 h3
  exact PySem.W.kia_tup (PySem.W.kitx_exc cl T.hg T.hk T.hs T.ha T.hn T.ht T.hm) I.kIn J h1 e (fun z => nomatch z) fun tk => ⟨.bl b, H, I.kept (t' := tk) fun _ _ z => z, rfl, q⟩
end
section
variable {K : PySem.W.Frag} {R : Res} {σ : L2.St} {H Hc : Hp} {ta tb te tl : TE} {a C dd : Addr} {fs : List (Str × V)} {cls : Value} {d : Option Addr}
theorem ev_isH {c : V} {cv : Value} {b : Bool} (h : EvP Free ta σ H (Is (.ref a))) (hb : EvP Free tb σ H (Is c)) (k : ClsV c cv) (hx : H dd = some (.xd fs)) (T : ExcC K C) (e : PySem.W.kitOne K (.ref C) cv = some b) : EvP Free (tCB (rIsH K a (.ref C) (some dd)) (tCons ta (tCons tb tNil))) σ H (Is (.bl b)) :=
  ev_cb (ea_is h (ea_is hb ea_nil)) fun vs H1 g ps Q q => by
    cases psOk2 ps
    exact ⟨C, dd, fs, c, cv, b, rfl, rfl, rfl, g.free _ _ hx, T, k, e, q _ H1 g.at rfl⟩
theorem ev_isHT {cs : List V} {us : List Value} {b : Bool} (h : EvP Free ta σ H (Is (.ref a))) (hb : EvP Free tb σ H (TupN Free cs)) (k : Paired ClsV cs us) (hx : H dd = some (.xd fs)) (T : ExcC K C) (e : PySem.W.kitAny K (.ref C) us = some b) : EvP Free (tCB (rIsHT K a (.ref C) (some dd)) (tCons ta (tCons tb tNil))) σ H (Is (.bl b)) :=
  ev_cb (ea_is h (ea_cons stb_tupN hb ea_nil)) fun vs H1 g ps Q q => by
    obtain ⟨u, rfl, p, rfl, hp, _⟩ := psOk_2 ps
    exact ⟨C, dd, fs, p, cs, us, b, rfl, rfl, rfl, g.free _ _ hx, T, hp, k, e, q _ H1 g.at rfl⟩
theorem ev_xf {f : Str} {v : V} (h : EvP Free te σ H (Is (.ref a))) (hx : H dd = some (.xd fs)) (l : fs.lookup f = some v) : EvP Free (tXf a (.ref C) (some dd) C f te) σ H (Is v) := fun H1 g Q q =>
  h H1 g _ fun u H2 g2 e => ⟨e, rfl, dd, fs, v, rfl, (g.trans g2).free _ _ hx, l, q v H2 g2 rfl⟩
/-- an error of the class at C is what «except C» names -/
theorem exm_own (h1 : PySem.W.subIn K (.ref C) (.type "BaseException") = some true) (c : KitC K C) : PySem.W.exmOne K (.ref C) (.ref C) = some true := by
  have e1 : (PySem.W.subIn K (.ref C) (.type "BaseException") == some true) = true := by rw [h1] <;> rfl
  have e2 : ((PySem.W.clsIn K C).isSome && PySem.W.typeIn K (.ref C) == some (.type "type")) = true := by
    have h2' : (PySem.W.clsIn K C).isSome = true := c.ic
    rw [h2', c.ty] <;> rfl
  show (if (PySem.W.subIn K (.ref C) (.type "BaseException") == some true) = true then (if ((PySem.W.clsIn K C).isSome && PySem.W.typeIn K (.ref C) == some (.type "type")) = true then PySem.W.subIn K (.ref C) (.ref C) else none) else none) = some true
  rw [if_pos e1, if_pos e2]
  exact c.me
theorem ev_notN {x : V} (ha : EvP R ta σ H (Is x)) (hb : EvP R tb σ H (Is .non)) : EvP R (tOp (fun x y H Q => y = .non ∧ Q (.bl (!decide (x = .non))) H) ta tb) σ H (Is (.bl (!decide (x = .non)))) := ev_opS ha hb fun H1 g Q q => ⟨rfl, q _ H1 g.at rfl⟩
theorem ev_isN {x : V} (ha : EvP R ta σ H (Is x)) (hb : EvP R tb σ H (Is .non)) : EvP R (tOp (fun x y H Q => y = .non ∧ Q (.bl (decide (x = .non))) H) ta tb) σ H (Is (.bl (decide (x = .non)))) := ev_opS ha hb fun H1 g Q q => ⟨rfl, q _ H1 g.at rfl⟩
/-- xs.index(y) -/
theorem ev_index {ys : List V} {y z : V} {j : Nat} (fy : flatV y = true) (fa : ys.all flatV = true) (hj : ys[j]? = some z) (e : eqV z y = true) (nb : ∀ (m : Nat) (z' : V), m < j → ys[m]? = some z' → eqV z' y = false) (ho : EvP R te σ H (LstN R ys)) (ha : EvP R ta σ H (Is y)) : EvP R (tBM K "list" (rIndex K) te (tCons ta tNil)) σ H (Is (.int (j : Nat))) := fun H0 g0 Q q =>
  ho H0 g0 _ fun x H1 g1 hx => by
    obtain ⟨p, e2, h, hd⟩ := hx
    cases e2
    refine ⟨.inl ⟨rfl, _, .inl (.inl h)⟩, ha H1 (g0.trans g1) _ fun u H2 g2 ek => ?_⟩
    cases ek
    exact ⟨p, ys, y, j, z, rfl, rfl, .inl (.inl (g2.1.2 p _ h hd.1 hd.2)), fy, fa, hj, e, nb, q _ H2 (g1.trans g2) rfl⟩
end
/-! ### list(range(n)) -/
section
variable {X : Cx}
theorem cr_range1 : CallR X (.type "range") (fun vs H Q => ∃ j, vs = [V.int j] ∧ ∀ p, H p = none → Q (.ref p) (upd H p (.rng 0 j))) := by
  intro pins s σ H vs us Q I r h
  obtain ⟨j, rfl, q⟩ := h
  obtain ⟨u1, rfl, rj⟩ := vals1 r
  obtain ⟨t, rfl⟩ := rj
  refine call_range_1 ⟨.ref s.heap.objs.size, upd H s.heap.objs.size (.rng 0 j), I.laid (fun b o e => Heap.get?_push_of_some _ e) (Nat.le_refl _) ?_, rfl, q _ (I.hok.fresh (Nat.le_refl _))⟩
  exact ⟨_, _, _, Heap.get?_push_size _ rfl⟩
def rangeV (n : Nat) : List Int := (List.range n).map fun (i : Nat) => (i : Int)
theorem vals_range {acc : Array Value} {n : Nat} (h : ItemsOf (fun (i : Nat) (v : Value) => ∃ t, v = Value.int (0 + (i : Int) * 1) t) acc n) : Vals ((rangeV n).map V.int) acc.toList := by
  obtain ⟨h1, h2⟩ := h
  have key : ∀ (k : Nat) (xs : List V) (vs : List Value), xs.length = vs.length → (∀ (j : Nat) (v : Value), vs[j]? = some v → ∃ t, v = Value.int (((k + j : Nat) : Int)) t) → (∀ (j : Nat) (x : V), xs[j]? = some x → x = V.int ((k + j : Nat) : Int)) → Vals xs vs := by
    intro k xs
    induction xs generalizing k with
    | nil =>
      intro vs hl _ _
      match vs, hl with
      | [], _ => exact .nil
    | cons x xs ih =>
      intro vs hl hv hx
      match vs, hl with
      | v :: vs, hl =>
        refine .cons ?_ (ih (k + 1) vs (Nat.succ.inj hl) (fun j w e => ?_) fun j y e => ?_)
        · have e1 := hx 0 x rfl
          obtain ⟨t, e2⟩ := hv 0 v rfl
          subst e1 e2
          exact ⟨t, rfl⟩
        · have := hv (j + 1) w (by simpa using e)
          rw [show k + (j + 1) = k + 1 + j by omega] at this
          exact this
        · have := hx (j + 1) y (by simpa using e)
          rw [show k + (j + 1) = k + 1 + j by omega] at this
          exact this
  refine key 0 _ _ ?_ (fun j v e => ?_) fun j x e => ?_
  · unfold rangeV
    simp [h1]
  · rw [Array.getElem?_toList] at e
    obtain ⟨t, rfl⟩ := h2 j v e
    exact ⟨t, by congr 1; omega⟩
  · unfold rangeV at e
    rw [List.getElem?_map, List.getElem?_map] at e
    cases hj : (List.range n)[j]? with
    | none => rw [hj] at e; cases e
    | some m =>
      rw [hj] at e
      have : m = j := by
        obtain ⟨q1, q2⟩ := List.getElem?_eq_some_iff.mp hj
        rw [List.getElem_range] at q2
        exact q2.symm
      cases e
      rw [this, Nat.zero_add]
def rListRng : List V → Hp → VK → Prop := fun xs H Q => ∃ (r : Addr) (n : Nat), xs = [.ref r] ∧ H r = some (.rng 0 (n : Int)) ∧ n ≤ 1000 ∧ ∀ l, H l = none → Q (.ref l) (upd H l (.lst ((rangeV n).map V.int)))
theorem call_list_rng (hc : X.calm = true) : CallR X (.type "list") rListRng := by
  intro pins s σ H xs us Q I r h
  obtain ⟨a, n, rfl, hr, hn, q⟩ := h
  obtain ⟨u, rfl, ru⟩ := vals1 r
  cases ru
  obtain ⟨t, u, v, e⟩ : ObjOk X.prog X.w H s.heap a (.rng 0 (n : Int)) := I.hok a _ hr
  have hsz : Builtin.Range.rangeSize 0 (n : Int) 1 = (n : Int) := by rw [rangeSize_one]; split <;> omega
  refine call_list_range (n := n) (I.ok.hd hc) e ?_ hsz (by omega) fun h' tk acc' c' kp e' it => ?_
  · unfold Builtin.Range.small
    simp [Builtin.Range.rangeFitsLong]
    omega
  · exact ⟨.ref s.heap.objs.size, _, I.laid (t' := tk) kp (Nat.le_refl _) (show ObjOk X.prog X.w _ h' _ (.lst ((rangeV n).map V.int)) from ⟨by rw [List.length_map]; unfold rangeV; rw [List.length_map, List.length_range]; exact small hn, acc'.toList, c', vals_range it, by simpa using e'⟩), rfl, q _ (I.hok.fresh (Nat.le_refl _))⟩
end
section
variable {K : PySem.W.Frag} {R : Res} {σ : L2.St} {H Hc : Hp} {ta tb te tl : TE}
theorem ev_rng1 {n : Int} (ha : EvP R ta σ H (Is (.int n))) : EvP R (tCB (fun vs H Q => ∃ j, vs = [V.int j] ∧ ∀ p, H p = none → Q (.ref p) (upd H p (.rng 0 j))) (tCons ta tNil)) σ H (fun u H' => ∃ p, u = .ref p ∧ H' p = some (.rng 0 n) ∧ (p ∉ R.D ∧ p ∉ R.h)) := ev_cb (ea_is ha ea_nil) fun vs H1 g ps Q q => by
  cases psOk1 ps
  exact ⟨_, rfl, fun p hp => q _ _ (Gv.new g.1 hp) ⟨p, rfl, upd_same, off g.1 hp⟩⟩
theorem ev_rangeV {n : Nat} (hn : n ≤ 1000) (ha : EvP R ta σ H (Is (.int (n : Int)))) : EvP R (tCB rListRng (tCons (tCB (fun vs H Q => ∃ j, vs = [V.int j] ∧ ∀ p, H p = none → Q (.ref p) (upd H p (.rng 0 j))) (tCons ta tNil)) tNil)) σ H (LstN R ((rangeV n).map V.int)) :=
  ev_cb (ea_cons (P := fun u H' => ∃ p, u = .ref p ∧ H' p = some (.rng 0 (n : Int)) ∧ (p ∉ R.D ∧ p ∉ R.h)) (fun _ _ _ g ⟨p, e, h, hd⟩ => ⟨p, e, g.2 p _ h hd.1 hd.2, hd⟩) (ev_rng1 ha) ea_nil) fun vs H1 g ps Q q => by
    match vs, ps with
    | [u], ⟨⟨p, e, h, hd⟩, _⟩ =>
      cases e
      exact ⟨p, n, rfl, h, hn, fun l hl => q _ _ (Gv.new g.1 hl) ⟨l, rfl, upd_same, off g.1 hl⟩⟩
theorem rangeV_mem {n : Nat} {y : Int} (h : y ∈ rangeV n) : ∃ j : Nat, y = (j : Int) ∧ j < n := by
  obtain ⟨j, hj, rfl⟩ := List.mem_map.mp h
  exact ⟨j, rfl, List.mem_range.mp hj⟩
theorem cutV_map {α : Type} (f : α → V) (zs : List α) (lo hi : Option Int) : ∃ ys : List α, cutV (zs.map f) lo hi = ys.map f ∧ (∀ y, y ∈ ys → y ∈ zs) ∧ ys.length ≤ zs.length := by
  refine ⟨(zs.drop (HT.sIx (zs.map f).length 0 lo)).take (HT.sIx (zs.map f).length (zs.map f).length hi - HT.sIx (zs.map f).length 0 lo), ?_, fun y hy => List.mem_of_mem_drop (List.mem_of_mem_take hy), ?_⟩
  · unfold cutV
    rw [List.map_take, List.map_drop]
  · rw [List.length_take, List.length_drop]
    omega
/-- xs[:k], k drawn, of ints: a new list -/
theorem ev_slDraw {φ : Int → Prop} {n : Int} {M : Nat} (ha : EvP R ta σ H (fun u H => ∃ zs : List Int, zs.length ≤ M ∧ (∀ y, y ∈ zs → φ y) ∧ LstN R (zs.map V.int) u H)) (hb : EvP R tb σ H (fun u _ => ∃ i : Int, u = .int i ∧ 0 ≤ i ∧ i < n)) :
    EvP R (tSl (rSlL K) ta tNoPart (tPart tb)) σ H (fun u H' => ∃ l xs, u = .ref l ∧ (∃ ys : List Int, ys.length ≤ M ∧ (∀ y, y ∈ ys → φ y) ∧ xs = ys.map V.int ∧ H l = none) ∧ H' l = some (.lst xs) ∧ (l ∉ R.D ∧ l ∉ R.h)) := fun H0 g0 Q q =>
  ha H0 g0 _ fun x H1 g1 ⟨zs, lz, hz, p, e, h, hd⟩ => hb H1 (g0.trans g1) _ fun y H2 g2 ⟨i, ei, _, _⟩ => ⟨i, ei, p, zs.map V.int, e, .inl (.inl (g2.1.2 p _ h hd.1 hd.2)), fun l hl => by
    obtain ⟨ys, e1, e2, e3⟩ := cutV_map V.int zs none (some i)
    rw [e1]
    exact q _ _ ((g1.trans g2).trans (Gv.new g2.1.1 hl)) ⟨l, _, rfl, ⟨ys, by omega, fun y hy => hz y (e2 y hy), rfl, (g0.trans (g1.trans g2)).back hl⟩, upd_same, off g2.1.1 hl⟩⟩
/-- a for over a list, of which only is said that it stands -/
theorem s_forP {tu : TS} {D : Ends} {g : TG} {P : List V → VP} (h : EvP R tl σ H (fun u H => ∃ p xs, u = .ref p ∧ P xs u H ∧ H p = some (.lst xs) ∧ (p ∉ R.D ∧ p ∉ R.h))) (gc : Gr R H Hc)
    (k : ∀ p xs H1, Gr R H H1 → Gv R Hc H1 → P xs (.ref p) H1 → H1 p = some (.lst xs) → (p ∉ R.D ∧ p ∉ R.h) → ∃ Pv : Nat → L2.St → Hp → Prop, Pv 0 σ H1 ∧ (∀ i σ' H', i ≤ xs.length → Pv i σ' H' → H' p = some (.lst xs)) ∧
      (∀ i x σ' H', i < xs.length → Pv i σ' H' → xs[i]? = some x → g x σ' H' fun σ2 H3 => tu { D with nx := Pv (i + 1), ct := Pv (i + 1), bk := D.nx } σ2 H3) ∧ ∀ σ' H', Pv xs.length σ' H' → D.nx σ' H') :
    tFor (iList K tl) g tu D σ Hc := h Hc gc _ fun u H1 a1 ⟨p, xs, e, hP, hp, hd⟩ => by
  subst e
  refine ⟨p, rfl, ⟨xs, .inl (.inl hp)⟩, ?_⟩
  obtain ⟨Pv, h0, h1, h2, h3⟩ := k p xs H1 (gc.trans a1) a1 hP hp hd
  refine for_it walk_list Pv h0 (fun i σ' H' hi pv => .inl (.inl (h1 i σ' H' hi pv))) (fun i x σ' H' H'' hi pv y => ?_) h3
  obtain ⟨y1, y2⟩ := y
  subst y1
  exact h2 i x σ' _ hi pv y2
theorem psOk_set {f : PyData → VP} {d : PyData} {v : V} : ∀ {ds : List PyData} {xs : List V} (j : Nat), PsOk (ds.map f) xs H → f d v H → PsOk ((ds.set j d).map f) (xs.set j v) H
  | [], [], _, _, _ => True.intro
  | _ :: _, _ :: _, 0, ⟨_, h2⟩, h => ⟨h, h2⟩
  | _ :: _, _ :: _, j + 1, ⟨h1, h2⟩, h => ⟨h1, psOk_set j h2 h⟩
end
theorem okD_word {z : Str} (h : z ∈ (["kind", "old", "then", "add", "here", "there", "left", "right", "more"] : List Str)) : OkD (.str z) := by
  simp only [List.mem_cons, List.not_mem_nil, or_false] at h
  rcases h with rfl | rfl | rfl | rfl | rfl | rfl | rfl | rfl | rfl <;> exact ⟨rfl, rfl, by decide +kernel, by decide⟩
end Fk
namespace Fk
open PySem PySem.Spec PyProof.Rows L2
section
variable {K : PySem.W.Frag} {R : Res} {H H' : Hp}
theorem psOk_imp' {Ps : List VP} {xs : List V} (s : ∀ P, P ∈ Ps → Stb R P) (g : Gr R H H') (h : PsOk Ps xs H) : PsOk Ps xs H' := psOk_stb s g h
theorem psOk_out {p : Addr} {o : HO} (hp : H p = some o) (hd : p ∉ R.D ∧ p ∉ R.h) : ∀ {ds : List PyData} {xs : List V}, PsOk (ds.map (Rp K (R.add p))) xs H → PsOk (ds.map (Rp K R)) xs H
  | [], [], _ => True.intro
  | _ :: _, _ :: _, ⟨h1, h2⟩ => ⟨al_out hp hd h1, psOk_out hp hd h2⟩
theorem psOk_flat : ∀ {vs : List V}, vs.all flatV = true → PsOk ((vs.map toD).map (Rp K R)) vs H
  | [], _ => True.intro
  | v :: vs, h => by
    obtain ⟨h1, h2⟩ := Bool.and_eq_true_iff.mp h
    exact ⟨rp_flat h1, psOk_flat h2⟩
end
end Fk
namespace Fk
open PySem PySem.Spec PyProof.Rows L2
theorem s_dropM {R : Res} {σ : L2.St} {H Hc : Hp} {D : Ends} {t : TA} {C : Addr} {sp : Sp} {E : L2.St → XK} {Ps : List VP} (h : EvA R t σ H Ps) (g : Gr R H Hc) (k : ∀ vs H1, Gr R H H1 → Gv R Hc H1 → PsOk Ps vs H1 → ∀ x dx, H1 x = none → H1 dx = none → dx ≠ x → sp (.ref x :: vs) (upd (upd H1 dx (.own x)) x (.ins C dx [])) (fun v H2 => v = .non ∧ D.nx σ H2) (E σ)) : tDrop (tMakeS C sp E t) D σ Hc := h Hc g _ fun vs H1 g1 ps => k vs H1 (g.trans g1) g1 ps
end Fk

/-! Forkpolls: exceptions whose context is None, raised where nothing is handled; raising while one is handled. -/
namespace Fk
open PySem PySem.Spec PyProof.Rows L2
section
variable {P : Program} {w : World} {K : PySem.W.Frag} {mg : Str → Option Value} {base : Heap} {CX : CXT} {k : Nat} {x qual : Str} {st : Stmt} {f : Addr} {fd : FuncData} {N ps : List Str} {sp : Sp}
theorem okN (F : Fun K x qual st f fd) (S : FnScope N ps (defScope st)) (ln : ∀ vs H Q E, sp vs H Q E → vs.length = ps.length)
    (body : ∀ (cdv : Value) (A : Around) (outer : List Env) (s : Shared) (H : Hp) (vs : List V) (Q : VK) (E : XK), Room k (A.deeper (envOfC qual (defScope st) s.heap.objs.size f cdv)) → sp vs H Q E →
      ∃ t, PSs (cxOf (L2N.CX P w) P w K mg base N qual (defScope st) f cdv A outer s H E) (defBody st) t ∧ t { nx := fun _ H' => Q .non H', rt := Q } (start N vs) H) : FnOk P w K mg base (L2N.CX P w) (k + 1) f fd ps sp := by
  obtain ⟨_, _, _, _, _, _, cdv, _, _, e, lk, hcd⟩ := F.ex
  subst e
  exact fn_of lk hcd S ln fun A outer s H vs Q E hr hs => body cdv A outer s H vs Q E hr hs
/-- the same def where an exception is handled -/
theorem okH (F : Fun K x qual st f fd) (S : FnScope N ps (defScope st)) (ln : ∀ vs H Q E, sp vs H Q E → vs.length = ps.length)
    (body : ∀ (cdv : Value) (A : Around) (outer : List Env) (s : Shared) (H : Hp) (vs : List V) (Q : VK) (E : XK) (p : Addr × Obj), sp vs H Q E →
      ∃ t, PSs (L2H.cxH CX P w K mg base N qual (defScope st) f cdv A outer s H E p) (defBody st) t ∧ t { nx := fun _ H' => Q .non H', rt := Q } (start N vs) H) : L2H.FnH P w K mg base CX (k + 1) f fd ps sp := by
  obtain ⟨_, _, _, _, _, _, cdv, _, _, e, lk, hcd⟩ := F.ex
  subst e
  exact L2H.fn_ofH lk hcd S ln fun A outer s H vs Q E p _ _ hs => body cdv A outer s H vs Q E p hs
end
section
variable {X : Cx} {CX : CXT} {k : Nat} {C fI : Addr} {fd : FuncData} {ps : List Str} {sp : Sp} {x : Str} {e : Expr} {es : List Expr} {ta : TA} {p pos : Pos}
/-- C(e, ..), to be raised; the exception's context is None -/
theorem pmk_oexN (T : OexC X.K C) (iC : PySem.W.findIn X.K (.ref C) "__init__" = some (some (.ref fI))) (tI : PySem.W.typeIn X.K (.ref fI) = some (.type "function")) (FI : FnOk X.prog X.w X.K X.mg X.base CX k fI fd ps sp) (hr : Room (k + 1) X.A) (hb : Binds X.K fd ps []) (hx : Passes CX X (fun _ _ _ => False))
    (hg : Gl X x) (hm : X.mg x = some (.ref C)) (ha : PA X (e :: es) ta) (hdb : (x == ("__debug__" : Str)) = false := by decide) (hst : starEach (e :: es) X.env = (false, eval e X.env) :: starEach es X.env := by rfl) (hpl : (backTo pos (starEach es X.env)).any (·.1) = false := by rfl) :
    L2N.PMk X (.Call (.Name x p) (e :: es) [] pos) (tMkO C sp [] ta) := by
  intro pins s0 σ H0 Q J0 asked
  obtain ⟨c1, c2, c3, c4, bm', c6, c7, c8, c9, c10, c11, c12, c13, c14, c15, hC', hbm'⟩ := T.cls
  refine wpAny_Call_Name_kw (ld_glob J0 hg hm ?_ hdb)
  refine PySem.W.callWith_K (h₀ := X.base) J0.ok.mod.kin T.kC (thn (ha.run pos pins s0 σ H0 _ J0 asked) fun us sA hyp => ⟨hyp.choose_spec.choose_spec.1.kIn, ?_⟩) hst hpl
  obtain ⟨vs, HA, JA, rA, small', asked'⟩ := hyp
  obtain ⟨hp, gn, dn, tn, on⟩ := sA
  have stay : ∀ b o, hp.get? b = some o → ((hp.push (PySem.W.kdv_tup us)).push (PySem.HandSPX.excO C hp.objs.size)).get? b = some o := fun b o z => Heap.get?_push_of_some _ (Heap.get?_push_of_some _ z)
  have there : ((hp.push (PySem.W.kdv_tup us)).push (PySem.HandSPX.excO C hp.objs.size)).get? (hp.objs.size + 1) = some (PySem.HandSPX.excO C hp.objs.size) := by heap_get
  have free : HA (hp.objs.size + 1) = none := JA.hok.fresh (Nat.le_succ _)
  have due := asked' _ free
  rw [List.append_nil] at due
  have JB : Inv X pins σ (upd HA (hp.objs.size + 1) (exo (hp.objs.size + 1) C none)) ⟨(hp.push (PySem.W.kdv_tup us)).push (PySem.HandSPX.excO C hp.objs.size), gn, dn, tn, on⟩ :=
    JA.laid (t' := tn) (a := hp.objs.size + 1) (o := exo (hp.objs.size + 1) C none) stay (Nat.le_succ _) (exo_ok there)
  have rB : Vals (V.ref (hp.objs.size + 1) :: vs) (Value.ref (hp.objs.size + 1) :: us) := .cons rfl rA
  have many : (Value.ref (hp.objs.size + 1) :: us ++ []).length = ps.length := by
    rw [List.append_nil, ← rB.length]
    exact FI.len _ _ _ _ due
  have few : us.length ≤ sizeLine := by
    rw [sizeLine_eq, ← Paired.length rA]
    omega
  have bound := hb _ (Value.ref (hp.objs.size + 1) :: us) JB.kIn many
  rw [List.append_nil] at bound
  refine wpAny_call (PySem.HandSPX.call_own F.excBase_ValueError (fun Y => PySem.HandSPX.refsVE_contains Y bm' hbm') (JA.kIn _ _ hC') (PySem.W.looks_findIn JA.kIn iC) (fun z => PySem.W.bind_fn JA.kIn z tI) few
    (codeAny_mono (FI.run _ X.stack _ _ ⟨Value.ref (hp.objs.size + 1) :: us, []⟩ (Value.ref (hp.objs.size + 1) :: us) _ _ (fun _ _ _ => False) (hr.make C us []) (JB.env0.make C us []) bound rB due) fun r sB z => ?_))
  cases r with
  | error er => exact hx pins σ _ _ er sB JB z
  | ok fl =>
    cases fl with
    | next => exact z.elim
    | brk => exact z.elim
    | cont => exact z.elim
    | ret u =>
      obtain ⟨v, HB, oB, bareB, unB, hokB, rv, ev, d, fs, ea, ed, hd1, qB⟩ := z
      subst ev
      obtain ⟨hp2, gB, dB, tB, osB⟩ := sB
      obtain ⟨t0, G, JG, kG, gone, hoe, na⟩ := mk_end0 (d2 := dB) (t2 := tB) JA (Nat.le_succ _) stay unB hokB oB bareB ea ed hd1
      exact ⟨rv, hp.objs.size + 1, _, _, ⟨G, gB, dB, tB, osB⟩, _, .ref C, some d, rfl, JG, kG, gone, hoe, ⟨rfl, rfl, fun ws hw => by cases hw; rfl⟩, rfl, rfl, na, rfl, bareB, raises_own T.exC T.tyC, qB⟩
end
/-! ### a classmethod that may raise -/
section
variable {X : Cx} {CX : CXT} {k : Nat} {C p g : Addr} {mc : Value} {sp : Sp} {E : L2.St → XK} {o e : Expr} {es : List Expr} {m : Str} {pos apos : Pos} {ta : TE} {t : TA} {pl : Sem Bool} {fd : FuncData} {ps : List Str}
def tCMethS (C : Addr) (sp : Sp) (E : L2.St → XK) (ta : TE) (t : TA) : TE := fun σ H Q => ta σ H fun x H1 => x = .ref C ∧ t σ H1 fun vs H2 => sp (.ref C :: vs) H2 Q (E σ)
theorem pe_cmethS (he : PE X o ta) (r : ClX.CRead X.K C mc) (c : ClX.CMet X.K C mc m p g) (F : FnOk X.prog X.w X.K X.mg X.base CX k g fd ps sp) (hr : Room k X.A) (hb : Binds X.K fd ps []) (hx : ∀ σ, PassesAt CX X σ (E σ)) (ha : PA X (e :: es) t)
    (hst : starEach (e :: es) X.env = (false, eval e X.env) :: starEach es X.env := by rfl) (hpl : (backTo pos (starEach es X.env)).any (·.1) = false := by rfl)
    (ht : eval (.Call (.Attribute o m apos) (e :: es) [] pos) X.env = (do
      let u ← eval o X.env
      standAt apos.atName
      let (f, front) ← holding [u] (getMethod u m pl)
      callWith pos f front (backTo pos (starEach (e :: es) X.env)) (backToKw pos (keywordEach [] X.env))) := by rfl) :
    PE X (.Call (.Attribute o m apos) (e :: es) [] pos) (tCMethS C sp E ta t) := by
  refine ⟨fun pins s σ H Q I q0 => ?_⟩
  refine PySem.W.methodCall_KW (pl := pl) (thn (he.run pins s σ H _ I q0) fun u s1 z => ?_) ht
  obtain ⟨x, H1, I1, rx, ex, q1⟩ := z
  subst ex
  cases rx
  refine ClX.getmethcm_ok I1 r c fun s2 I2 => ?_
  refine ClX.callwith_cm I2 (ClX.base_none I1 (Nat.le_refl _)) c.fi (thn (ha.run pos _ s2 σ H1 _ I2 q1) fun us s3 z => ⟨⟨ClX.pin_at z.choose_spec.choose_spec.1, z.choose_spec.choose_spec.1.kIn⟩, ?_⟩) hst hpl
  obtain ⟨vs, H2, I3, rv, q2⟩ := z
  have I4 := ClX.unpin I3
  have hl : (Value.ref C :: us ++ []).length = ps.length := by
    rw [List.append_nil, List.length_cons, ← rv.length]
    exact F.len _ _ _ _ q2
  have b2 := hb s3 (Value.ref C :: us) I4.kIn hl
  rw [List.append_nil] at b2
  refine wpAny_call (PySem.W.method_call (ClX.pin_at I3) (codeAny_mono (F.run X.A X.stack s3 H2 ⟨Value.ref C :: us, []⟩ (Value.ref C :: us) (V.ref C :: vs) Q (E σ) hr I4.env0 b2 (.cons rfl rv) q2) fun y s4 hq => ?_))
  cases y with
  | error er => exact hx σ pins H2 s3 er s4 I4 hq
  | ok fl =>
    cases fl with
    | ret u => exact I4.after hq
    | next => exact False.elim hq
    | brk => exact False.elim hq
    | cont => exact False.elim hq
end
end Fk

/-! Forkpolls: get of a written dict; texts cut and joined. -/
namespace Fk
open PySem PySem.Spec PyProof.Rows L2
/-- the entries of a written dict -/
inductive Ents : List (Str × V) → List DictEntry → Prop where
  | nil : Ents [] []
  | cons {k : Str} {v : V} {e : DictEntry} {kvs : List (Str × V)} {es : List DictEntry} (hk : ∃ t, e.key = .str k t) (hv : RelV v e.val) (r : Ents kvs es) : Ents ((k, v) :: kvs) (e :: es)
structure KDictV (K : PySem.W.Frag) (w : World) (a : Addr) (kvs : List (Str × V)) : Prop where
  ex : ∃ es n, K.lookup a = some ⟨.type "dict", none, .dict es n, #[]⟩ ∧ PySem.W.KeysLit w.params es.toList ∧ Ents kvs es.toList
  low : (a == sysModules) = false
theorem ents_find {z : Str} : ∀ {kvs : List (Str × V)} {es : List DictEntry}, Ents kvs es → RelO (kvs.lookup z) ((es.find? fun e => Value.isStrOf z e.key).map (·.val)) := by
  intro kvs es h
  induction h with
  | nil => trivial
  | @cons k v e kvs es hk hv r ih =>
    obtain ⟨t, hk⟩ := hk
    have e1 : Value.isStrOf z e.key = (k == z) := by rw [hk]; rfl
    rw [List.find?_cons, e1]
    by_cases q : k = z
    · subst q
      have q2 : (k == k) = true := by simp
      rw [List.lookup_cons, q2]
      exact hv
    · have q2 : (k == z) = false := by simpa using q
      have q3 : (z == k) = false := by simpa using fun h => q h.symm
      rw [List.lookup_cons, q2, q3]
      exact ih
section
variable {X : Cx} {a : Addr} {kvs : List (Str × V)} {o e : Expr} {apos cpos : Pos} {to te : TE}
def tKGet (a : Addr) (kvs : List (Str × V)) (to te : TE) : TE := fun σ H Q => to σ H fun x H1 => x = .ref a ∧ te σ H1 fun y H2 => ∃ z, y = .str z ∧ Q ((kvs.lookup z).getD .non) H2
theorem pe_kget (D : KDictV X.K X.w a kvs) (ho : PE X o to) (he : PE X e te) (m : M1 X o "get" apos e cpos) : PE X (.Call (.Attribute o "get" apos) [e] [] cpos) (tKGet a kvs to te) := by
  obtain ⟨⟨es, n, lk, lit, ents⟩, low⟩ := D
  refine ⟨fun pins s σ H Q I q0 => ?_⟩
  refine wpAny_Call_method m.base m.few m.line PySem.F.plainAttrs_dict PySem.F.slot_dict_get PySem.F.type_dict_get (thn (ho.run pins s σ H _ I q0) fun u s1 z => ?_)
  obtain ⟨x, H1, I1, rx, ex, q1⟩ := z
  subst ex
  cases rx
  have hm := PySem.W.mapOf_K (prog := X.prog) (w := X.w) I1.kIn lk lit
  refine ⟨hm.typeIs, fun b eb => ⟨_, by cases eb; exact I1.kIn _ _ lk, rfl⟩, ?_⟩
  rw [m.trees]
  refine Calls.callWith_builtin rfl (Calls.evalArgs_plain (Calls.spliced_cons (thn (he.run pins s1 σ H1 _ I1 q1) fun iv s2 z => Calls.spliced_nil ?_)))
  obtain ⟨y, H2, I2, ry, t, rfl, q2⟩ := z
  obtain ⟨tk, rfl⟩ := ry
  have hm2 := PySem.W.mapOf_K (prog := X.prog) (w := X.w) I2.kIn lk lit
  refine call_meetsIn PySem.F.slot_dict_get hm2.typeIs PySem.F.entry_dict_get (PySem.F.args_dict_get_2 _ _) (meets_dict_get (strKind X.prog X.w) a (strKind_is X.prog X.w t tk) low) ⟨_, hm2, _, H2, I2.tok _, ?_, q2⟩
  have r := ents_find (z := t) ents
  have e1 : findBy Value.isStrOf es t = (es.toList.find? fun e => Value.isStrOf t e.key).map (·.val) := by
    obtain ⟨l⟩ := es
    simp [findBy]
  show RelV _ ((findBy Value.isStrOf es t).getD .none)
  rw [e1]
  exact r.getD rfl
end
end Fk
namespace Fk
open PySem PySem.Spec PyProof.Rows L2
/-- an error of the class at D is not what «except C» names -/
theorem exm_other {K : PySem.W.Frag} {C D : Addr} (_ : PySem.W.subIn K (.ref D) (.type "BaseException") = some true) (h1 : PySem.W.subIn K (.ref C) (.type "BaseException") = some true) (c : KitC K C) (h : PySem.W.subIn K (.ref D) (.ref C) = some false) : PySem.W.exmOne K (.ref D) (.ref C) = some false := by
  have e1 : (PySem.W.subIn K (.ref C) (.type "BaseException") == some true) = true := by rw [h1] <;> rfl
  have e2 : ((PySem.W.clsIn K C).isSome && PySem.W.typeIn K (.ref C) == some (.type "type")) = true := by
    have h2' : (PySem.W.clsIn K C).isSome = true := c.ic
    rw [h2', c.ty] <;> rfl
  show (if (PySem.W.subIn K (.ref C) (.type "BaseException") == some true) = true then (if ((PySem.W.clsIn K C).isSome && PySem.W.typeIn K (.ref C) == some (.type "type")) = true then PySem.W.subIn K (.ref D) (.ref C) else none) else none) = some false
  rw [if_pos e1, if_pos e2]
  exact h
end Fk

/-! Forkpolls: the set of a list or a tuple of texts, and how many it holds. -/
namespace Fk
open PySem PySem.Spec PyProof.Rows L2
def kS (x : Str) : Key := Sum.inr x
/-- which keys stand in it -/
def inK (ks : List Str) : Key → Bool := fun j => ks.any fun x => decide (j = kS x)
theorem inK_kS {ks : List Str} {x : Str} : inK ks (kS x) = true ↔ x ∈ ks := by
  unfold inK
  rw [List.any_eq_true]
  constructor
  · rintro ⟨y, hy, e⟩
    have e2 : kS x = kS y := of_decide_eq_true e
    cases Sum.inr.inj e2
    exact hy
  · exact fun h => ⟨x, h, decide_eq_true rfl⟩
theorem inK_snoc (ks : List Str) (x : Str) (j : Key) : inK (ks ++ [x]) j = (inK ks j || decide (j = kS x)) := by
  unfold inK
  rw [List.any_append]
  simp
theorem keyIs_str {k : Str} {t : Tok} : (mixKind P w).is (kS k) (Value.str k t) = true := by
  show keyIs (Sum.inr k) (Value.str k t) = true
  unfold keyIs
  simp [Value.isStr, Value.isStrOf]
/-! ### a set of texts, its table's places in order -/
def strOf (v : Value) : Str := match v with
  | .str x _ => x
  | _ => Str.empty
def GoodZ (P : Program) (w : World) (e : Int × Value) : Prop := ∃ (x : Str) (t : Tok), e.2 = .str x t ∧ e.1 = (mixKind P w).hash (kS x)
def SetZ (P : Program) (w : World) (h : Heap) (a : Addr) (ks : List Str) (c : Nat) : Prop :=
  ∃ (o : Obj) (es : Array (Int × Value)) (ep : Nat) (t : SetTable), h.get? a = some o ∧ o.ExactSet ∧ o.data = .set es ep t ∧ (∀ e ∈ es.toList, GoodZ P w e) ∧ (es.toList.map fun e => strOf e.2).Nodup ∧
    (∀ x, x ∈ ks ↔ x ∈ es.toList.map fun e => strOf e.2) ∧ es.size < scanBound ∧ t.fits es.size = true ∧ es.size = c ∧ Ris t.place.toList ∧ (w.params.followText "set-order" = true ∨ t.led = true)
section
variable {P : Program} {w : World} {A : Around} {E : Value → Shared → Prop} {s : Shared} {a : Addr} {ks : List Str} {c : Nat} {h : Heap}
theorem goodZ_elems {l : List (Int × Value)} (g : ∀ e ∈ l, GoodZ P w e) : ElemsOf (mixKind P w) l := fun e he => by
  obtain ⟨x, t, e1, e2⟩ := g e he
  exact ⟨⟨kS x, by rw [e1]; exact keyIs_str, e2⟩, by rw [e1]; exact key_scan (k := kS x) (show RelV (V.str x) _ from ⟨t, rfl⟩)⟩
theorem goodZ_mem {l : List (Int × Value)} (g : ∀ e ∈ l, GoodZ P w e) (k : Key) : (∃ e ∈ l, (mixKind P w).is k e.2 = true) ↔ ∃ x, k = kS x ∧ x ∈ l.map fun e => strOf e.2 := by
  constructor
  · rintro ⟨e, he, q⟩
    obtain ⟨x, t, e1, e2⟩ := g e he
    rw [e1] at q
    exact ⟨x, (mixKind P w).inj _ _ _ q keyIs_str, List.mem_map.mpr ⟨e, he, by rw [e1]; rfl⟩⟩
  · rintro ⟨x, rfl, hx⟩
    obtain ⟨e, he, q⟩ := List.mem_map.mp hx
    obtain ⟨y, t, e1, e2⟩ := g e he
    rw [e1] at q
    have q' : y = x := q
    exact ⟨e, he, by rw [e1, q']; exact keyIs_str⟩
theorem SetZ.setOf (R : SetZ P w h a ks c) : Heap.SetOf (mixKind P w) h a (inK ks) c := by
  obtain ⟨o, es, ep, t, go, xo, od, g, nd, m, b, f, n, _⟩ := R
  refine ⟨o, es, ep, t, go, xo, od, goodZ_elems g, fun k => ?_, b, f, n⟩
  rw [goodZ_mem g k]
  constructor
  · intro hk
    obtain ⟨x, hx, e⟩ := List.any_eq_true.mp hk
    exact ⟨x, of_decide_eq_true e, (m x).mp hx⟩
  · rintro ⟨x, rfl, hx⟩
    exact inK_kS.mpr ((m x).mpr hx)
theorem stored {h : Heap} {a : Addr} {o : Obj} {es es' : Array (Int × Value)} {ep : Nat} {t t' : SetTable} (go : h.get? a = some o) (od : o.data = .set es ep t) :
    (h.update a (Obj.putSet es' t')).get? a = some { o with data := .set es' (ep + 1) t' } := by
  have z := Heap.get?_update_self (Obj.putSet es' t') go (by rw [putSet_of es' t' od]; rfl)
  rw [putSet_of es' t' od] at z
  exact z
theorem setZ_tail {g : Bool → Sem Unit} (okg : ∀ (b : Bool) (s₁ : Shared) (Q' : Unit → Shared → Prop), Q' () s₁ → wpAny (model P w) A (g b) Q' E s₁)
    {o : Obj} {es : Array (Int × Value)} {ep : Nat} {t : SetTable} (go : s.heap.get? a = some o) (xo : o.ExactSet) (od : o.data = .set es ep t)
    {es1 : Array (Int × Value)} {t2 : SetTable} {us : List Str} (g1 : ∀ e ∈ es1.toList, GoodZ P w e) (n1 : (es1.toList.map fun e => strOf e.2).Nodup) (m1 : ∀ x, x ∈ us ↔ x ∈ es1.toList.map fun e => strOf e.2)
    (b1 : es1.size < scanBound) (f2 : t2.fits es1.size = true) (r2 : Ris t2.place.toList) (l2 : w.params.followText "set-order" = true ∨ t2.led = true) {dm : Bool} {R : Option Bool → Shared → Prop}
    (hR : ∀ h', Heap.SameBut a s.heap h' → SetZ P w h' a us es1.size → R (some true) { s with heap := h' }) :
    wpAny (model P w) A (do
        storeSet a es1 t2
        if (!dm && t2.tooFull) = true then do
            g (relayAll t2 es1 (SetTable.grown es1.size)).2.2
            storeSet a (relayAll t2 es1 (SetTable.grown es1.size)).1 (relayAll t2 es1 (SetTable.grown es1.size)).2.1
            pure (some true)
          else pure (some true)) R E s := by
  refine wpAny_bind (wpAny_storeSet_of go od ?_ (fits_of_scanBound b1))
  have go1 := stored (es' := es1) (t' := t2) go od
  have sb := Heap.SameBut.update s.heap a (Obj.putSet es1 t2)
  split
  · have p3 := relayAll_perm t2 es1 (SetTable.grown es1.size)
    have f3 := relayAll_fits t2 es1 (SetTable.grown es1.size)
    have r3 := relayAll_ris t2 es1 (SetTable.grown es1.size)
    have l3 := relayAll_led t2 es1 (SetTable.grown es1.size)
    generalize relayAll t2 es1 (SetTable.grown es1.size) = W at p3 f3 r3 l3 ⊢
    obtain ⟨es2, t3, gave⟩ := W
    dsimp only at p3 f3 r3 l3 ⊢
    have sz : es2.size = es1.size := by rw [← Array.length_toList, p3.length_eq, Array.length_toList]
    have b2 : es2.size < scanBound := by rw [sz]; exact b1
    refine wpAny_bind (okg _ _ _ ?_)
    refine wpAny_bind (wpAny_storeSet_of go1 rfl ?_ (fits_of_scanBound b2))
    have go2 := stored (es' := es2) (t' := t3) go1 rfl
    refine wpAny_pure (hR _ (sb.trans (Heap.SameBut.update _ a _)) ?_)
    exact ⟨_, es2, _, t3, go2, xo, rfl, fun e he => g1 e (p3.mem_iff.mp he), (p3.map _).nodup_iff.mpr n1, fun x => (m1 x).trans (p3.map _).mem_iff.symm, b2, f3, sz, r3, l2.imp id fun z => by rw [l3]; exact z⟩
  · exact wpAny_pure (hR _ sb ⟨_, es1, _, t2, go1, xo, rfl, g1, n1, m1, b1, f2, rfl, r2, l2⟩)
theorem setZ_add {x : Str} {tk : Tok} {Q : Bool → Shared → Prop} (R : SetZ P w s.heap a ks c) (room : c + 1 < scanBound)
    (hQ : ∀ b h', Heap.SameBut a s.heap h' → SetZ P w h' a (ks ++ [x]) (if inK ks (kS x) = true then c else c + 1) → Q b { s with heap := h' }) :
    wpAny (model P w) A (setAddHashed a (.str x tk) ((mixKind P w).hash (kS x))) Q E s := by
  obtain ⟨o, es, ep, t, go, xo, od, g, nd, m, b, f, n, ri, le⟩ := R
  have kx : (mixKind P w).is (kS x) (.str x tk) = true := keyIs_str
  have sc : (Value.str x tk).scannable = true := key_scan (k := kS x) (show RelV (V.str x) _ from ⟨tk, rfl⟩)
  have el : ElemsOf (mixKind P w) es.toList := goodZ_elems g
  have sof : ∀ k, (∃ e ∈ es.toList, (mixKind P w).is k e.2 = true) ↔ ∃ x, k = kS x ∧ x ∈ es.toList.map fun e => strOf e.2 := goodZ_mem g
  unfold setAddHashed setAddHashedIn
  refine wpAny_holding (wpAny_bind (wpAny_setState_of go od f ?_))
  dsimp only
  rw [byScan_of sc b el]
  simp only [↓reduceIte]
  unfold setAddByScan
  refine wpAny_bind ?_
  refine wpAny_bind (wpAny_rule ?_)
  refine wpAny_bind (wpAny_setScan_of kx go od f el ?_)
  cases fi : List.findIdx? (fun e => (mixKind P w).is (kS x) e.2) es.toList with
  | some j =>
    dsimp only
    obtain ⟨lj, pj, _⟩ := List.findIdx?_eq_some_iff_getElem.mp fi
    obtain ⟨y, ey, hy⟩ := (sof (kS x)).mp ⟨_, List.getElem_mem lj, pj⟩
    cases Sum.inr.inj ey
    have hin : x ∈ ks := (m x).mpr hy
    refine wpAny_pure (wpAny_pure ?_)
    have e : s = { s with heap := s.heap } := by cases s; rfl
    rw [e]
    refine hQ _ s.heap (Heap.SameBut.refl a s.heap) ?_
    rw [if_pos (inK_kS.mpr hin)]
    exact ⟨o, es, ep, t, go, xo, od, g, nd, fun z => by
      rw [← m z, List.mem_append, List.mem_singleton]
      exact ⟨fun q => q.elim id fun e => e ▸ hin, .inl⟩, b, f, n, ri, le⟩
  | none =>
    dsimp only
    have nx : x ∉ es.toList.map fun e => strOf e.2 := fun z => by
      obtain ⟨e, he, q⟩ := (sof (kS x)).mpr ⟨x, rfl, z⟩
      have no := List.findIdx?_eq_none_iff.mp fi e he
      rw [q] at no
      cases no
    have nin : ¬ inK ks (kS x) = true := fun z => nx ((m x).mp (inK_kS.mp z))
    have gw : ∀ (b : Bool) {s₁ : Shared} {Q' : Unit → Shared → Prop}, Q' () s₁ → wpAny (model P w) A (match b with | true => rule "set.scan.the-table-gave-way" | false => pure ()) Q' E s₁ :=
      fun b s₁ Q' q => by cases b <;> first | exact wpAny_pure q | exact wpAny_rule q
    have pm := layNew_perm t es ((mixKind P w).hash (kS x)) (.str x tk)
    have f1 := layNew_fits t es ((mixKind P w).hash (kS x)) (.str x tk)
    have r1 := layNew_ris t es ((mixKind P w).hash (kS x)) (.str x tk) ri
    have l1 := layNew_led t es ((mixKind P w).hash (kS x)) (.str x tk)
    generalize layNew t es ((mixKind P w).hash (kS x)) (.str x tk) = W at pm f1 r1 l1 ⊢
    obtain ⟨es1, t1, dm, gave⟩ := W
    dsimp only at pm f1 r1 l1 ⊢
    rw [Array.toList_push] at pm
    have pc : es1.toList.Perm (((mixKind P w).hash (kS x), Value.str x tk) :: es.toList) := pm.trans (List.perm_append_singleton _ _)
    have pk : (es1.toList.map fun e => strOf e.2).Perm (x :: es.toList.map fun e => strOf e.2) := pc.map _
    have g1 : ∀ e ∈ es1.toList, GoodZ P w e := fun e he => by
      rcases List.mem_cons.mp (pc.mem_iff.mp he) with z | z
      · rw [z]; exact ⟨x, tk, rfl, rfl⟩
      · exact g e z
    have n1 : (es1.toList.map fun e => strOf e.2).Nodup := pk.nodup_iff.mpr (List.nodup_cons.mpr ⟨nx, nd⟩)
    have m1 : ∀ y, y ∈ ks ++ [x] ↔ y ∈ es1.toList.map fun e => strOf e.2 := fun y => by
      rw [pk.mem_iff, List.mem_cons, List.mem_append, List.mem_singleton, m y]
      exact Or.comm
    have sz : es1.size = c + 1 := by rw [← Array.length_toList, pc.length_eq, List.length_cons, Array.length_toList, n]
    have b1 : es1.size < scanBound := by rw [sz]; exact room
    have ld : w.params.followText "set-order" = true ∨ t1.led = true := le.imp id fun z => by rw [l1]; exact z
    have fin : ∀ h', Heap.SameBut a s.heap h' → SetZ P w h' a (ks ++ [x]) es1.size → Q true { s with heap := h' } := fun h' sb r => by
      refine hQ true h' sb ?_
      rw [if_neg nin, ← sz]
      exact r
    refine wpAny_bind (gw _ ?_)
    split
    · refine wpAny_bind ?_
      rw [hashByValue_scannable 8 sc]
      refine wpAny_pure ?_
      refine setZ_tail ?_ go xo od g1 n1 m1 b1 ?_ ?_ ?_ ?_
      · intro b s₁ Q' q; cases b <;> first | exact wpAny_pure q | exact wpAny_rule q
      · first | (split <;> first | exact f1 | exact SetTable.fits_plain_off f1) | exact f1
      · first | (split <;> exact r1) | exact r1
      · first | (split <;> exact ld) | exact ld
      · intro h' sb r; dsimp only; exact wpAny_pure (fin h' sb r)
    · refine wpAny_bind (wpAny_pure ?_)
      simp only [↓reduceIte]
      refine setZ_tail ?_ go xo od g1 n1 m1 b1 f1 r1 ld ?_
      · intro b s₁ Q' q; cases b <;> first | exact wpAny_pure q | exact wpAny_rule q
      · intro h' sb r; dsimp only; exact wpAny_pure (fin h' sb r)
end
/-- the set after some of them: how many -/
def SetS (P : Program) (w : World) (h : Heap) (S : Addr) (ks : List Str) (c : Nat) : Prop := SetZ P w h S ks c ∧ c ≤ ks.length ∧ (c = ks.length ↔ ks.Nodup)
theorem take_snoc {α : Type} {ks : List α} {i : Nat} {x : α} (h : ks[i]? = some x) : ks.take (i + 1) = ks.take i ++ [x] := by
  rw [List.take_add_one, h]
  rfl
theorem nodup_snoc {α : Type} {l : List α} {x : α} : (l ++ [x]).Nodup ↔ l.Nodup ∧ x ∉ l := by
  rw [List.nodup_append]
  constructor
  · rintro ⟨h1, _, h3⟩
    exact ⟨h1, fun hx => h3 x hx x (List.mem_singleton.mpr rfl) rfl⟩
  · rintro ⟨h1, h2⟩
    refine ⟨h1, by simp, fun a ha b hb e => ?_⟩
    rw [List.mem_singleton.mp hb] at e
    exact h2 (e ▸ ha)
theorem set_loop {P : Program} {w : World} {A : Around} {I : Addr} {fp wr : List Addr} {G : Array GenState → Array GenState → Prop} {n : Nat} {Pv : Nat → Value → Prop} {St : Nat → Shared → Prop} {R : Result → Shared → Prop}
    (W : WalksS P w A.in1 I fp wr G n Pv St) (S : Addr) (hS : S ∉ fp) (ks : List Str) (hn : n = ks.length) (hb : n + 1 < scanBound) (hv : ∀ i v, Pv i v → ∃ k t, ks[i]? = some k ∧ v = Value.str k t) :
    ∀ (k i : Nat) (s : Shared), n - i = k → i ≤ n → St i s → (∃ c, SetS P w s.heap S (ks.take i) c) → (∀ s' c, Moved (S :: wr) G s s' → SetS P w s'.heap S ks c → R (Except.ok (Flow.ret Value.none)) s') → codeAny (model P w) A (Code.builtin "set.update.loop" { pos := [Value.ref S, Value.ref I] }) R s := by
  intro k
  induction k with
  | zero =>
    intro i s hk hi hst ⟨c, hc⟩ q
    have e : i = n := by omega
    subst e
    refine codeAny_builtin F.entry_set_update_loop ?_
    rw [Around.under_plain rfl rfl]
    show wpAny _ _ (Builtin.«set.update.loop» _) _ _ _
    unfold Builtin.«set.update.loop»
    refine wpAny_bind (W.done s _ _ hst fun s' hm => ?_)
    have hns : S ∉ wr := fun h => hS (W.sub _ h)
    have ha : ks.take i = ks := by rw [hn, List.take_length]
    rw [ha] at hc
    have hset : SetS P w s'.heap S ks c := ⟨by
      obtain ⟨o, es, ep, t, g, h2⟩ := hc.1
      exact ⟨o, es, ep, t, hm.heap S o hns g, h2⟩, hc.2⟩
    exact wpAny_pure (q s' c ⟨fun b o hb' => hm.heap b o fun h => hb' (List.mem_cons_of_mem _ h), hm.gens, hm.drawn, hm.os, hm.toks⟩ hset)
  | succ k ih =>
    intro i s hk hi hst ⟨c, hc⟩ q
    refine codeAny_builtin F.entry_set_update_loop ?_
    rw [Around.under_plain rfl rfl]
    show wpAny _ _ (Builtin.«set.update.loop» _) _ _ _
    unfold Builtin.«set.update.loop»
    refine wpAny_bind (W.item i s _ _ (by omega) hst fun v s' pv hst' hm => ?_)
    obtain ⟨x, t, hx, rfl⟩ := hv i v pv
    have hns : S ∉ wr := fun h => hS (W.sub _ h)
    have hset : SetZ P w s'.heap S (ks.take i) c := by
      obtain ⟨o, es, ep, t, g, h2⟩ := hc.1
      exact ⟨o, es, ep, t, hm.heap S o hns g, h2⟩
    have li : (ks.take i).length = i := by rw [List.length_take]; omega
    refine wpAny_bind (wpAny_holding ?_)
    show wpAny _ _ (setAdd S (Value.str x t)) _ _ _
    unfold setAdd
    refine wpAny_holding (wpAny_bind ?_)
    refine (mixKind P w).pyHash (k := kS x) keyIs_str ?_
    refine setZ_add hset (by have := hc.2.1; omega) fun _ h' sb hs' => ?_
    refine wpAny_pure ?_
    refine ⟨Code.quiet_builtin _ (by decide +kernel), ?_⟩
    refine ih (i + 1) _ (by omega) (by omega) (W.frame (i + 1) s' h' (s'.toks + 1) hst' (Nat.le_succ _) fun b hb o g => ?_) ?_ fun s2 c2 m2 h2 => q s2 c2 ?_ h2
    · rw [sb.2 b fun e => hS (e ▸ hb)]
      exact g
    · refine ⟨if inK (ks.take i) (kS x) = true then c else c + 1, ⟨?_, ?_, ?_⟩⟩
      · rw [take_snoc hx]
        exact hs'
      · rw [take_snoc hx, List.length_append, List.length_singleton]
        have := hc.2.1
        split <;> omega
      · rw [take_snoc hx, List.length_append, List.length_singleton, nodup_snoc]
        have h1 := hc.2.1
        have h2 := hc.2.2
        by_cases hm : inK (ks.take i) (kS x) = true
        · rw [if_pos hm]
          have hmem := inK_kS.mp hm
          exact ⟨fun e => by omega, fun e => absurd hmem e.2⟩
        · rw [if_neg hm]
          have hno : x ∉ ks.take i := fun h => hm (inK_kS.mpr h)
          exact ⟨fun e => ⟨h2.mp (by omega), hno⟩, fun e => by have := h2.mpr e.1; omega⟩
    · refine ⟨fun b o hb' g => m2.heap b o hb' ?_, W.gtrans _ _ _ hm.gens m2.gens, by rw [m2.drawn]; exact hm.drawn, by rw [m2.os]; exact hm.os, Nat.le_trans (Nat.le_succ_of_le hm.toks) m2.toks⟩
      have nb : b ≠ S := fun e => hb' (e ▸ List.mem_cons_self)
      show h'.get? b = some o
      rw [sb.2 b nb]
      exact hm.heap b o (fun h => hb' (List.mem_cons_of_mem _ h)) g
theorem vals_str_at : ∀ {ks : List Str} {l : List Value} {i : Nat} {v : Value}, Vals (ks.map V.str) l → l[i]? = some v → ∃ k t, ks[i]? = some k ∧ v = Value.str k t
  | k :: ks, _ :: l, 0, v, .cons h _, e => by
    obtain ⟨t, rfl⟩ := h
    cases e
    exact ⟨k, t, rfl, rfl⟩
  | k :: ks, _ :: l, i + 1, v, .cons _ h, e => vals_str_at (ks := ks) (l := l) (i := i) h e
  | [], _, i, v, .nil, e => by simp at e
theorem set0 {P : Program} {w : World} {h : Heap} {S : Addr} {led : Bool} {ks : List Str} (el : led = !w.params.followText "set-order") (g : h.get? S = some { cls := Value.type "set", data := Data.set #[] 0 (SetTable.fresh 0 0 led) }) : SetZ P w h S (ks.take 0) 0 :=
  ⟨_, #[], 0, SetTable.fresh 0 0 led, g, ⟨rfl, rfl, rfl⟩, rfl, fun e he => by simp at he, List.nodup_nil, fun k => by simp, by decide, by cases led <;> decide +kernel, rfl, by cases led <;> exact List.Pairwise.nil, by
    cases q : w.params.followText "set-order" with
    | true => exact .inl rfl
    | false => rw [q] at el; exact .inr (by rw [el]; rfl)⟩
theorem call_set_list' {P : Program} {w : World} {A : Around} {E : Value → Shared → Prop} {s : Shared} {l : Addr} {items : Array Value} {ks : List Str} {Q : Value → Shared → Prop}
    (hh : A.handled = none) (hl : s.heap.IsList l items) (hk : Vals (ks.map V.str) items.toList) (hb : items.size + 1 < scanBound)
    (h : ∀ (h' : Heap) (tk c : Nat), SetS P w h' s.heap.objs.size ks c → (∀ b o, s.heap.get? b = some o → h'.get? b = some o) → Q (Value.ref s.heap.objs.size) { heap := h', gens := s.gens, drawn := s.drawn, toks := tk, os := s.os }) :
    wpAny (model P w) A (call (Value.type "set") [Value.ref l]) Q E s := by
  obtain ⟨c, tl, hmro⟩ := F.called_set.mro
  have hct := F.typeCall_set_1 (Value.ref l)
  refine wpAny_call (codeAny_of_tree (wpAny_pure ⟨Code.quiet_builtin _ (by decide +kernel), codeAny_builtin F.entry_type_call ?_⟩))
  rw [Around.under_plain (weight_type_call_type "set" [Value.ref l] []) rfl]
  show wpAny _ _ (Builtin.«type.__call__» _) _ _ _
  unfold Builtin.«type.__call__»
  refine wpAny_ite_false ?_ ?_
  · rfl
  refine wpAny_ite_false ?_ ?_
  · rfl
  refine wpAny_bind (wpAny_of_eq hct ?_)
  refine wpAny_bind (wpAny_of_eq hmro ?_)
  refine wpAny_ite_false ?_ ?_
  · rfl
  refine wpAny_bind (wpAny_of_eq F.called_set.made ?_)
  refine wpAny_bind (wpAny_pure ?_)
  refine wpAny_bind (wpAny_holding ?_)
  refine wpAny_call (codeAny_mono (code_set_led1 (Q₁ := fun obj s₁ => ∃ led, (led = !w.params.followText "set-order") ∧ obj = Value.ref s.heap.objs.size ∧ s₁ = { heap := s.heap.push { cls := Value.type "set", data := Data.set #[] 0 (SetTable.fresh 0 0 led) }, gens := s.gens, drawn := s.drawn, toks := s.toks, os := s.os }) (E := E) (Value.ref l) ⟨_, rfl, rfl, rfl⟩) fun r s₁ hr => ?_)
  match r, hr with
  | Except.error e, he => exact he
  | Except.ok (Flow.ret obj), ⟨led, el, e1, e2⟩ =>
    subst e1 e2
    have hS0 : (s.heap.push { cls := Value.type "set", data := Data.set #[] 0 (SetTable.fresh 0 0 led) }).get? s.heap.objs.size = some { cls := Value.type "set", data := Data.set #[] 0 (SetTable.fresh 0 0 led) } := Heap.get?_push_size _ rfl
    have tself : Shared.TypeIs { heap := s.heap.push { cls := Value.type "set", data := Data.set #[] 0 (SetTable.fresh 0 0 led) }, gens := s.gens, drawn := s.drawn, toks := s.toks, os := s.os } (Value.ref s.heap.objs.size) "set" := ⟨_, hS0, rfl⟩
    refine wpAny_bind (wpAny_isInstance tself F.called_set.sub ?_)
    refine wpAny_ite_false ?_ ?_
    · rfl
    refine wpAny_bind (wpAny_holding ?_)
    show wpAny _ _ (callSpecial? _ _ _ _) _ _ _
    unfold callSpecial?
    refine wpAny_bind (wpAny_specialOf tself F.called_set.init.lookup ?_)
    refine wpAny_holding ?_
    refine wpAny_bind (wpAny_of_eq (F.called_set.init.bind (Value.ref s.heap.objs.size)) ?_)
    refine wpAny_bind ?_
    refine wpAny_call (codeAny_mono (R := wants (fun r s₂ => r = Value.none ∧ ∃ (h' : Heap) (tk c : Nat), s₂ = { heap := h', gens := s.gens, drawn := s.drawn, toks := tk, os := s.os } ∧ SetS P w h' s.heap.objs.size ks c ∧ ∀ b o, s.heap.get? b = some o → h'.get? b = some o) E) (codeAny_call_builtin F.called_set.init.plain F.entry_set_init (check_set_init_1 tself ?_)) fun r2 s2 hr2 => ?_)
    rotate_left
    · match r2, hr2 with
      | Except.error e, he => exact he
      | Except.ok (Flow.ret v), ⟨e1, h', tk, c2, e2, h1, h2⟩ =>
        subst e1 e2
        refine wpAny_pure ?_
        refine wpAny_ite_false ?_ ?_
        · rfl
        exact wpAny_pure (h h' tk c2 h1 h2)
    · show wpAny _ _ (Builtin.«set.__init__» _) _ _ _
      unfold Builtin.«set.__init__»
      refine wpAny_bind (wpAny_ite_true rfl (wpAny_pure ?_))
      refine wpAny_bind ?_
      unfold typeNameOfCut
      refine wpAny_bind ?_
      unfold shownTypeOf
      refine wpAny_bind (wpAny_typeOf tself ?_)
      refine wpAny_ite_false rfl (wpAny_pure ?_)
      refine wpAny_pure ?_
      refine wpAny_bind ?_
      unfold checkCount
      refine wpAny_ite_false rfl (wpAny_ite_false rfl (wpAny_ite_false rfl (wpAny_pure ?_)))
      refine wpAny_bind (wpAny_pure ?_)
      refine wpAny_bind ?_
      unfold setUsed
      refine wpAny_bind ?_
      unfold setState
      refine wpAny_bind (wpAny_load' hS0 ?_)
      refine wpAny_ite_false rfl (wpAny_pure ?_)
      refine wpAny_pure ?_
      refine wpAny_ite_false rfl ?_
      refine wpAny_bind ?_
      obtain ⟨ol, hol, hcl, nl, hdl⟩ := hl
      obtain ⟨ocls, odict, odata, oslots⟩ := ol
      dsimp only at hcl hdl
      subst hcl hdl
      have hol1 := Heap.get?_push_of_some { cls := Value.type "set", data := Data.set #[] 0 (SetTable.fresh 0 0 led) } hol
      show wpAny _ _ (Builtin.Frozenset.updateFrom "set.__init__" s.heap.objs.size (Value.ref l)) _ _ _
      unfold Builtin.Frozenset.updateFrom
      refine wpAny_bind ?_
      unfold Builtin.Frozenset.isAnySet
      have tlist : Shared.TypeIs { heap := s.heap.push { cls := Value.type "set", data := Data.set #[] 0 (SetTable.fresh 0 0 led) }, gens := s.gens, drawn := s.drawn, toks := s.toks, os := s.os } (Value.ref l) "list" := ⟨_, hol1, rfl⟩
      unfold orM
      refine wpAny_bind (wpAny_isInstance tlist F.sub_list_set ?_)
      refine wpAny_isInstance tlist F.sub_list_frozenset ?_
      refine wpAny_ite_false rfl ?_
      refine wpAny_bind (wpAny_typeOf tlist ?_)
      refine wpAny_ite_false rfl ?_
      have hl1 : Heap.IsList (s.heap.push { cls := Value.type "set", data := Data.set #[] 0 (SetTable.fresh 0 0 led) }) l items := ⟨_, hol1, rfl, nl, rfl⟩
      refine wpAny_bind (wpAny_pyIter_list hl1 ?_)
      refine wpAny_bind (wpAny_runValue ?_)
      have hI : l ≠ (s.heap.push { cls := Value.type "set", data := Data.set #[] 0 (SetTable.fresh 0 0 led) }).objs.size := Nat.ne_of_lt (Heap.lt_size hol1)
      have hSI : s.heap.objs.size ≠ (s.heap.push { cls := Value.type "set", data := Data.set #[] 0 (SetTable.fresh 0 0 led) }).objs.size := Nat.ne_of_lt (Heap.lt_size hS0)
      have hSl : s.heap.objs.size ≠ l := fun e => Nat.lt_irrefl _ (by have := Heap.lt_size hol; rw [← e] at this; exact this)
      have W := (Walks.list (prog := P) (w := w) (A := A.in1.in1.in1) hh (s.heap.push { cls := Value.type "set", data := Data.set #[] 0 (SetTable.fresh 0 0 led) }).objs.size l hI items).toS
      have len : items.size = ks.length := by
        have := hk.length
        rw [List.length_map, Array.length_toList] at this
        exact this.symm
      refine set_loop W s.heap.objs.size (fun h => ?_) ks len hb (fun i v hv => ?_) (items.size - 0) 0 _ rfl (Nat.zero_le _) ⟨?_, ?_⟩ ?_ fun s' c' hm hS' => ?_
      · rcases List.mem_cons.mp h with h | h
        · exact hSI h
        · exact hSl (List.mem_singleton.mp h)
      · exact vals_str_at hk (by rw [Array.getElem?_toList]; exact hv)
      · exact ⟨_, Heap.get?_push_size _ rfl, rfl, rfl⟩
      · exact Heap.IsList.push hl1 _
      · exact ⟨0, set0 el (Heap.get?_push_of_some _ hS0), Nat.zero_le _, by simp⟩
      · refine wpAny_pure (wpAny_pure ⟨rfl, s'.heap, s'.toks, c', ?_, hS', fun b o hb' => ?_⟩)
        · obtain ⟨h0, g0, d0, t0, o0⟩ := s'
          have e1 := hm.gens
          have e2 := hm.drawn
          have e3 := hm.os
          dsimp only at e1 e2 e3
          subst e1 e2 e3
          rfl
        · refine hm.heap b o (fun h => ?_) (Heap.get?_push_of_some _ (Heap.get?_push_of_some _ hb'))
          rcases List.mem_cons.mp h with h | h
          · exact Nat.lt_irrefl _ (by have := Heap.lt_size hb'; rw [h] at this; exact this)
          · have h1 := Heap.lt_size (Heap.get?_push_of_some { cls := Value.type "set", data := Data.set #[] 0 (SetTable.fresh 0 0 led) } hb')
            rw [List.mem_singleton.mp h] at h1
            exact Nat.lt_irrefl _ h1
theorem call_set_tuple' {P : Program} {w : World} {A : Around} {E : Value → Shared → Prop} {s : Shared} {l : Addr} {items : Array Value} {ks : List Str} {Q : Value → Shared → Prop}
    (hh : A.handled = none) (hl : s.heap.IsTuple l items) (hk : Vals (ks.map V.str) items.toList) (hb : items.size + 1 < scanBound)
    (h : ∀ (h' : Heap) (tk c : Nat), SetS P w h' s.heap.objs.size ks c → (∀ b o, s.heap.get? b = some o → h'.get? b = some o) → Q (Value.ref s.heap.objs.size) { heap := h', gens := s.gens, drawn := s.drawn, toks := tk, os := s.os }) :
    wpAny (model P w) A (call (Value.type "set") [Value.ref l]) Q E s := by
  obtain ⟨c, tl, hmro⟩ := F.called_set.mro
  have hct := F.typeCall_set_1 (Value.ref l)
  refine wpAny_call (codeAny_of_tree (wpAny_pure ⟨Code.quiet_builtin _ (by decide +kernel), codeAny_builtin F.entry_type_call ?_⟩))
  rw [Around.under_plain (weight_type_call_type "set" [Value.ref l] []) rfl]
  show wpAny _ _ (Builtin.«type.__call__» _) _ _ _
  unfold Builtin.«type.__call__»
  refine wpAny_ite_false ?_ ?_
  · rfl
  refine wpAny_ite_false ?_ ?_
  · rfl
  refine wpAny_bind (wpAny_of_eq hct ?_)
  refine wpAny_bind (wpAny_of_eq hmro ?_)
  refine wpAny_ite_false ?_ ?_
  · rfl
  refine wpAny_bind (wpAny_of_eq F.called_set.made ?_)
  refine wpAny_bind (wpAny_pure ?_)
  refine wpAny_bind (wpAny_holding ?_)
  refine wpAny_call (codeAny_mono (code_set_led1 (Q₁ := fun obj s₁ => ∃ led, (led = !w.params.followText "set-order") ∧ obj = Value.ref s.heap.objs.size ∧ s₁ = { heap := s.heap.push { cls := Value.type "set", data := Data.set #[] 0 (SetTable.fresh 0 0 led) }, gens := s.gens, drawn := s.drawn, toks := s.toks, os := s.os }) (E := E) (Value.ref l) ⟨_, rfl, rfl, rfl⟩) fun r s₁ hr => ?_)
  match r, hr with
  | Except.error e, he => exact he
  | Except.ok (Flow.ret obj), ⟨led, el, e1, e2⟩ =>
    subst e1 e2
    have hS0 : (s.heap.push { cls := Value.type "set", data := Data.set #[] 0 (SetTable.fresh 0 0 led) }).get? s.heap.objs.size = some { cls := Value.type "set", data := Data.set #[] 0 (SetTable.fresh 0 0 led) } := Heap.get?_push_size _ rfl
    have tself : Shared.TypeIs { heap := s.heap.push { cls := Value.type "set", data := Data.set #[] 0 (SetTable.fresh 0 0 led) }, gens := s.gens, drawn := s.drawn, toks := s.toks, os := s.os } (Value.ref s.heap.objs.size) "set" := ⟨_, hS0, rfl⟩
    refine wpAny_bind (wpAny_isInstance tself F.called_set.sub ?_)
    refine wpAny_ite_false ?_ ?_
    · rfl
    refine wpAny_bind (wpAny_holding ?_)
    show wpAny _ _ (callSpecial? _ _ _ _) _ _ _
    unfold callSpecial?
    refine wpAny_bind (wpAny_specialOf tself F.called_set.init.lookup ?_)
    refine wpAny_holding ?_
    refine wpAny_bind (wpAny_of_eq (F.called_set.init.bind (Value.ref s.heap.objs.size)) ?_)
    refine wpAny_bind ?_
    refine wpAny_call (codeAny_mono (R := wants (fun r s₂ => r = Value.none ∧ ∃ (h' : Heap) (tk c : Nat), s₂ = { heap := h', gens := s.gens, drawn := s.drawn, toks := tk, os := s.os } ∧ SetS P w h' s.heap.objs.size ks c ∧ ∀ b o, s.heap.get? b = some o → h'.get? b = some o) E) (codeAny_call_builtin F.called_set.init.plain F.entry_set_init (check_set_init_1 tself ?_)) fun r2 s2 hr2 => ?_)
    rotate_left
    · match r2, hr2 with
      | Except.error e, he => exact he
      | Except.ok (Flow.ret v), ⟨e1, h', tk, c2, e2, h1, h2⟩ =>
        subst e1 e2
        refine wpAny_pure ?_
        refine wpAny_ite_false ?_ ?_
        · rfl
        exact wpAny_pure (h h' tk c2 h1 h2)
    · show wpAny _ _ (Builtin.«set.__init__» _) _ _ _
      unfold Builtin.«set.__init__»
      refine wpAny_bind (wpAny_ite_true rfl (wpAny_pure ?_))
      refine wpAny_bind ?_
      unfold typeNameOfCut
      refine wpAny_bind ?_
      unfold shownTypeOf
      refine wpAny_bind (wpAny_typeOf tself ?_)
      refine wpAny_ite_false rfl (wpAny_pure ?_)
      refine wpAny_pure ?_
      refine wpAny_bind ?_
      unfold checkCount
      refine wpAny_ite_false rfl (wpAny_ite_false rfl (wpAny_ite_false rfl (wpAny_pure ?_)))
      refine wpAny_bind (wpAny_pure ?_)
      refine wpAny_bind ?_
      unfold setUsed
      refine wpAny_bind ?_
      unfold setState
      refine wpAny_bind (wpAny_load' hS0 ?_)
      refine wpAny_ite_false rfl (wpAny_pure ?_)
      refine wpAny_pure ?_
      refine wpAny_ite_false rfl ?_
      refine wpAny_bind ?_
      obtain ⟨ol, hol, hcl, nl, hdl⟩ := hl
      obtain ⟨ocls, odict, odata, oslots⟩ := ol
      dsimp only at hcl hdl
      subst hcl hdl
      have hol1 := Heap.get?_push_of_some { cls := Value.type "set", data := Data.set #[] 0 (SetTable.fresh 0 0 led) } hol
      show wpAny _ _ (Builtin.Frozenset.updateFrom "set.__init__" s.heap.objs.size (Value.ref l)) _ _ _
      unfold Builtin.Frozenset.updateFrom
      refine wpAny_bind ?_
      unfold Builtin.Frozenset.isAnySet
      have tlist : Shared.TypeIs { heap := s.heap.push { cls := Value.type "set", data := Data.set #[] 0 (SetTable.fresh 0 0 led) }, gens := s.gens, drawn := s.drawn, toks := s.toks, os := s.os } (Value.ref l) "tuple" := ⟨_, hol1, rfl⟩
      unfold orM
      refine wpAny_bind (wpAny_isInstance tlist F.sub_tuple_set ?_)
      refine wpAny_isInstance tlist F.sub_tuple_frozenset ?_
      refine wpAny_ite_false rfl ?_
      refine wpAny_bind (wpAny_typeOf tlist ?_)
      refine wpAny_ite_false rfl ?_
      have hl1 : Heap.IsTuple (s.heap.push { cls := Value.type "set", data := Data.set #[] 0 (SetTable.fresh 0 0 led) }) l items := ⟨_, hol1, rfl, nl, rfl⟩
      refine wpAny_bind (wpAny_pyIter_tuple hl1 ?_)
      refine wpAny_bind (wpAny_runValue ?_)
      have hI : l ≠ (s.heap.push { cls := Value.type "set", data := Data.set #[] 0 (SetTable.fresh 0 0 led) }).objs.size := Nat.ne_of_lt (Heap.lt_size hol1)
      have hSI : s.heap.objs.size ≠ (s.heap.push { cls := Value.type "set", data := Data.set #[] 0 (SetTable.fresh 0 0 led) }).objs.size := Nat.ne_of_lt (Heap.lt_size hS0)
      have hSl : s.heap.objs.size ≠ l := fun e => Nat.lt_irrefl _ (by have := Heap.lt_size hol; rw [← e] at this; exact this)
      have W := (Walks.tuple (prog := P) (w := w) (A := A.in1.in1.in1) hh (s.heap.push { cls := Value.type "set", data := Data.set #[] 0 (SetTable.fresh 0 0 led) }).objs.size l hI items).toS
      have len : items.size = ks.length := by
        have := hk.length
        rw [List.length_map, Array.length_toList] at this
        exact this.symm
      refine set_loop W s.heap.objs.size (fun h => ?_) ks len hb (fun i v hv => ?_) (items.size - 0) 0 _ rfl (Nat.zero_le _) ⟨?_, ?_⟩ ?_ fun s' c' hm hS' => ?_
      · rcases List.mem_cons.mp h with h | h
        · exact hSI h
        · exact hSl (List.mem_singleton.mp h)
      · exact vals_str_at hk (by rw [Array.getElem?_toList]; exact hv)
      · exact ⟨_, Heap.get?_push_size _ rfl, rfl, rfl⟩
      · exact Heap.IsTuple.push hl1 _
      · exact ⟨0, set0 el (Heap.get?_push_of_some _ hS0), Nat.zero_le _, by simp⟩
      · refine wpAny_pure (wpAny_pure ⟨rfl, s'.heap, s'.toks, c', ?_, hS', fun b o hb' => ?_⟩)
        · obtain ⟨h0, g0, d0, t0, o0⟩ := s'
          have e1 := hm.gens
          have e2 := hm.drawn
          have e3 := hm.os
          dsimp only at e1 e2 e3
          subst e1 e2 e3
          rfl
        · refine hm.heap b o (fun h => ?_) (Heap.get?_push_of_some _ (Heap.get?_push_of_some _ hb'))
          rcases List.mem_cons.mp h with h | h
          · exact Nat.lt_irrefl _ (by have := Heap.lt_size hb'; rw [h] at this; exact this)
          · have h1 := Heap.lt_size (Heap.get?_push_of_some { cls := Value.type "set", data := Data.set #[] 0 (SetTable.fresh 0 0 led) } hb')
            rw [List.mem_singleton.mp h] at h1
            exact Nat.lt_irrefl _ h1
/-- a set of these texts, c of them -/
def SetZO (P : Program) (w : World) (a : Addr) (ks : List Str) (c : Nat) : HO := .ext fun h => SetZ P w h a ks c
theorem SetZ.at {P : Program} {w : World} {h h' : Heap} {a : Addr} {ks : List Str} {c : Nat} (R : SetZ P w h a ks c) (k : ∀ o, h.get? a = some o → h'.get? a = some o) : SetZ P w h' a ks c := by
  obtain ⟨o, es, ep, t, go, r⟩ := R
  exact ⟨o, es, ep, t, k o go, r⟩
theorem setZ_new {w : World} {P : Program} {H : Hp} {h : Heap} {a : Addr} {ks : List Str} {c : Nat} (R : SetZ P w h a ks c) : ObjOk P w H h a (SetZO P w a ks c) := by
  have ⟨o, _, _, _, go, _⟩ := R
  exact ⟨R, ⟨o, go⟩, fun _ _ z k => z.at k⟩
theorem setZ_get {X : Cx} {pins : List (Addr × Obj)} {σ : L2.St} {H : Hp} {s : Shared} {a : Addr} {ks : List Str} {c : Nat} (I : Inv X pins σ H s) (ha : H a = some (SetZO X.prog X.w a ks c)) : SetZ X.prog X.w s.heap a ks c := (I.hok a _ ha).1
/-- set(xs) of texts: which, and how many -/
def rSetS (K : PySem.W.Frag) (P : Program) (w : World) : List V → Hp → VK → Prop := fun xs H Q => ∃ (l : Addr) (ks : List Str), xs = [.ref l] ∧ (SqL K H l (ks.map V.str) ∨ SqT K H l (ks.map V.str)) ∧ ks.length ≤ 1000 ∧ ∀ p c, H p = none → c ≤ ks.length → (c = ks.length ↔ ks.Nodup) → Q (.ref p) (upd H p (SetZO P w p ks c))
section
variable {X : Cx}
theorem cr_setS (hc : X.calm = true) : CallR X (.type "set") (rSetS X.K X.prog X.w) := by
  intro pins s σ H xs us Q I r h
  obtain ⟨l, ks, rfl, hs, hn, q⟩ := h
  obtain ⟨u, rfl, ru⟩ := vals1 r
  cases ru
  have done : ∀ (h' : Heap) (tk c : Nat), SetS X.prog X.w h' s.heap.objs.size ks c → (∀ b o, s.heap.get? b = some o → h'.get? b = some o) → EP X pins σ Q (Value.ref s.heap.objs.size) { heap := h', gens := s.gens, drawn := s.drawn, toks := tk, os := s.os } := fun h' tk c hS k =>
    ⟨.ref s.heap.objs.size, _, I.laid (t' := tk) k (Nat.le_refl _) (setZ_new hS.1), rfl, q _ c (I.hok.fresh (Nat.le_refl _)) hS.2.1 hS.2.2⟩
  rcases hs with hs | hs
  · obtain ⟨its, hv, hp, _⟩ := I.list hs
    have e := hv.length
    rw [List.length_map] at e
    refine call_set_list' (items := its.toArray) (ks := ks) (I.ok.hd hc) ?_ (by simpa using hv) (by rw [List.size_toArray, ← e]; show ks.length + 1 < 4096; omega) done
    obtain ⟨o, n, g, h1, _, h2⟩ := hp
    exact ⟨o, g, h1, n, h2⟩
  · obtain ⟨its, hv, hp, _⟩ := I.tuple hs
    have e := hv.length
    rw [List.length_map] at e
    refine call_set_tuple' (items := its.toArray) (ks := ks) (I.ok.hd hc) ?_ (by simpa using hv) (by rw [List.size_toArray, ← e]; show ks.length + 1 < 4096; omega) done
    exact hp
/-- len(s) of such a set -/
def rLenK (P : Program) (w : World) : List V → Hp → VK → Prop := fun xs H Q => ∃ (p : Addr) (ks : List Str) (c : Nat), xs = [.ref p] ∧ H p = some (SetZO P w p ks c) ∧ Q (.int (c : Int)) H
theorem call_lenK : CallR X (.builtin "len") (rLenK X.prog X.w) := by
  intro pins s σ H xs us Q I r h
  obtain ⟨p, ks, c, rfl, hp, q⟩ := h
  obtain ⟨u, rfl, ru⟩ := vals1 r
  cases ru
  have hS : Heap.SetOf (mixKind X.prog X.w) s.heap p (inK ks) c := (setZ_get I hp).setOf
  obtain ⟨o, es, ep, t, g, ex, d, _, _, sz, ft, e⟩ := hS
  have hb : es.size < 4096 := sz
  refine call_len_set g ex d ft (by omega) ?_
  exact ⟨.int (c : Int), H, I.kept fun _ _ z => z, ⟨_, by rw [e]⟩, q⟩
end
end Fk

/-! Forkpolls: lists or tuples, one way for both; different texts; a value's class among several. -/
namespace Fk
open PySem PySem.Spec PyProof.Rows L2
theorem pi_or {X : Cx} {tg l : Expr} {w1 w2 : TI} (h1 : PI X tg l w1) (h2 : PI X tg l w2) : PI X tg l (fun σ H R => w1 σ H R ∨ w2 σ H R) :=
  ⟨fun pins s σ H R I q => q.elim (h1.run pins s σ H R I) (h2.run pins s σ H R I)⟩
theorem pi_seq {X : Cx} {tg l : Expr} {tl : TE} (h : PE X l tl) : PI X tg l (fun σ H R => iList X.K tl σ H R ∨ iTup X.K tl σ H R) := pi_or (pi_list h) (pi_tup h)
/-- a list or a tuple of these -/
def LT (H : Hp) (p : Addr) (xs : List V) : Prop := H p = some (.lst xs) ∨ H p = some (.tup xs)
theorem LT.same {H H' : Hp} {p : Addr} {xs : List V} (h : LT H p xs) (s : Same H H') : LT H' p xs := h.elim (fun e => .inl (s _ _ e)) fun e => .inr (s _ _ e)
theorem LT.sq {K : PySem.W.Frag} {H : Hp} {p : Addr} {xs : List V} (h : LT H p xs) : SqL K H p xs ∨ SqT K H p xs := h.elim (fun e => .inl (.inl (.inl e))) fun e => .inr (.inl (.inl e))
abbrev iSeq (K : PySem.W.Frag) (tl : TE) : TI := fun σ H R => iList K tl σ H R ∨ iTup K tl σ H R
section
variable {K : PySem.W.Frag} {R : Res} {σ : L2.St} {H Hc : Hp} {ta tb te tl : TE} {xs : List V} {p : Addr}
/-- a list or a tuple, as a value -/
def LTN (R : Res) (xs : List V) : VP := fun u H => ∃ p, u = .ref p ∧ LT H p xs ∧ (p ∉ R.D ∧ p ∉ R.h)
theorem lt_gr {H' : Hp} (h : LT H p xs) (hd : p ∉ R.D ∧ p ∉ R.h) (g : Gr R H H') : LT H' p xs := h.elim (fun e => .inl (g.2 p _ e hd.1 hd.2)) fun e => .inr (g.2 p _ e hd.1 hd.2)
theorem stb_ltn : Stb R (LTN R xs) := fun _ _ _ g ⟨p, e, h, hd⟩ => ⟨p, e, lt_gr h hd g, hd⟩
theorem ev_varLT {i : Nat} (h : σ[i]? = some (some (.ref p))) (hp : LT H p xs) (hd : p ∉ R.D ∧ p ∉ R.h) : EvP R (tVar i) σ H (LTN R xs) := ev_var h fun H' g => ⟨p, rfl, lt_gr hp hd g, hd⟩
theorem ev_ltSq (h : EvP R te σ H (LTN R xs)) : EvP R te σ H (fun u H => ∃ p, u = .ref p ∧ (SqL K H p xs ∨ SqT K H p xs)) := ev_imp h fun u H' _ ⟨p, e, h, _⟩ => ⟨p, e, h.sq⟩
theorem ew_seq {i : Nat} (hv : σ[i]? = some (some (.ref p))) (hp : LT H p xs) (hd : p ∉ R.D ∧ p ∉ R.h) : EvW R (iSeq K (tVar i)) σ H xs.length (YAt xs) := fun H1 a Z k => by
  rcases hp with hp | hp
  · exact .inl (ew_list (K := K) (ev_L (ev_varLN hv hp hd)) H1 a Z k)
  · exact .inr (ew_tup (K := K) (ev_U (ev_varTN hv hp hd)) H1 a Z k)
/-- isinstance(x, (c1, c2, ..)) -/
theorem ev_isiT {x : V} {t : Value} {cs : List V} {us : List Value} {b : Bool} (ha : EvP R ta σ H (Is x)) (hb : EvP R tb σ H (TupN R cs)) (k : Paired ClsV cs us) (ty : ∀ H', Gr R H H' → TyX K H' x t) (e : PySem.W.kitAny K t us = some b) : EvP R (tCB (rIsiT K) (tCons ta (tCons tb tNil))) σ H (Is (.bl b)) :=
  ev_cb (ea_is ha (ea_cons stb_tupN hb ea_nil)) fun vs H1 g ps Q q => by
    obtain ⟨u, rfl, tp, rfl, hp, _⟩ := psOk_2 ps
    exact ⟨x, tp, cs, t, us, b, rfl, hp, k, ty H1 g, e, q _ H1 g.at rfl⟩
theorem ev_differ {P : Program} {w : World} {ks : List Str} (ha : EvP R ta σ H (LTN R (ks.map V.str))) (hb : EvP R tb σ H (LTN R (ks.map V.str))) (hn : ks.length ≤ 1000) :
    EvP R (tOp rEq (tCB (rLenK P w) (tCons (tCB (rSetS K P w) (tCons ta tNil)) tNil)) (tCB (fun vs H Q => ∃ p ys, vs = [.ref p] ∧ (SqL K H p ys ∨ SqT K H p ys) ∧ Q (.int ys.length) H) (tCons tb tNil))) σ H (Is (.bl (decide ks.Nodup))) := by
  refine ev_op (R := R) (A := fun u _ => ∃ c : Nat, u = .int (c : Int) ∧ (c = ks.length ↔ ks.Nodup)) (fun _ _ _ _ h => h) ?_ (ev_len (xs := ks.map V.str) (ev_ltSq hb)) fun x y H1 g hx hy Q q => ?_
  · refine ev_cb (Ps := [fun u H => ∃ p c, u = .ref p ∧ H p = some (SetZO P w p ks c) ∧ (p ∉ R.D ∧ p ∉ R.h) ∧ (c = ks.length ↔ ks.Nodup)]) (ea_cons (fun v H H' g ⟨p, c, e, h, hd, hc⟩ => ⟨p, c, e, g.2 p _ h hd.1 hd.2, hd, hc⟩) ?_ ea_nil) fun vs H1 g ps Q q => ?_
    · refine ev_cb (ea_cons stb_ltn ha ea_nil) fun vs H1 g ps Q q => ?_
      match vs, ps with
      | [u], ⟨⟨p, e, h, hd⟩, _⟩ =>
        cases e
        exact ⟨p, ks, rfl, h.sq, hn, fun a c ha2 hc hi => q _ _ (Gv.new g.1 ha2) ⟨a, c, rfl, upd_same, off g.1 ha2, hi⟩⟩
    · match vs, ps with
      | [u], ⟨⟨p, c, e, h, hd, hc⟩, _⟩ =>
        cases e
        exact ⟨p, _, c, rfl, h, q _ H1 (Gv.refl g.1) ⟨c, rfl, hc⟩⟩
  · obtain ⟨c, rfl, hc⟩ := hx
    cases hy
    refine ⟨rfl, q _ H1 (Gv.refl g.1) ?_⟩
    rw [List.length_map]
    refine congrArg V.bl (decide_eq_decide.mpr ?_)
    rw [← hc]
    exact ⟨fun e => by have := V.int.inj e; omega, fun e => by rw [e]⟩
/-- tuple(xs) of a list or a tuple -/
theorem ev_tupleOf (ha : EvP R ta σ H (LTN R xs)) : EvP R (tCB (fun us H Q => ∃ p ys, us = [.ref p] ∧ ((SqL K H p ys ∧ ∀ l, H l = none → Q (.ref l) (upd H l (.tup ys))) ∨ SqT K H p ys ∧ Q (.ref p) H)) (tCons ta tNil)) σ H (TupN R xs) :=
  ev_cb (ea_cons stb_ltn ha ea_nil) fun vs H1 g ps Q q => by
    match vs, ps with
    | [u], ⟨⟨p, e, h, hd⟩, _⟩ =>
      cases e
      rcases h with h | h
      · exact ⟨p, xs, rfl, .inl ⟨.inl (.inl h), fun l hl => q _ _ (Gv.new g.1 hl) ⟨l, rfl, upd_same, off g.1 hl⟩⟩⟩
      · exact ⟨p, xs, rfl, .inr ⟨.inl (.inl h), q _ _ (Gv.refl g.1) ⟨p, rfl, h, hd⟩⟩⟩
theorem lst_lt (h : EvP R te σ H (LstN R xs)) : EvP R te σ H (LTN R xs) := ev_imp h fun u H' _ ⟨p, e, h, hd⟩ => ⟨p, e, .inl h, hd⟩
theorem tup_lt (h : EvP R te σ H (TupN R xs)) : EvP R te σ H (LTN R xs) := ev_imp h fun u H' _ ⟨p, e, h, hd⟩ => ⟨p, e, .inr h, hd⟩
/-- sorted(xs) of texts -/
theorem ev_sortedS {ks : List Str} (ha : EvP R ta σ H (LstN R (ks.map V.str))) (hn : ks.length < 64) : EvP R (tCB (rSortedS K) (tCons ta tNil)) σ H (fun u H => ∃ ys : List Str, ys.Perm ks ∧ sortedS ys = true ∧ LstN R (ys.map V.str) u H) :=
  ev_cb (ea_cons stb_lstN ha ea_nil) fun vs H1 g ps Q q => by
    match vs, ps with
    | [u], ⟨⟨p, e, h, hd⟩, _⟩ =>
      cases e
      exact ⟨p, ks, rfl, .inl (.inl h), hn, fun ys l h1 h2 hl => q _ _ (Gv.new g.1 hl) ⟨ys, h1, h2, l, rfl, upd_same, off g.1 hl⟩⟩
end
end Fk

/-! Forkpolls: a comprehension with two fors, of which all items are known alike. -/
namespace Fk
open PySem PySem.Spec PyProof.Rows L2
section
variable {K : PySem.W.Frag} {R : Res} {σ : L2.St} {H Hc : Hp} {te : TE} {wi wi1 : TI} {n : Nat} {Y : Nat → Hp → V → Hp → Prop} {vs vs1 : List Nat}
/-- a list, all of whose items are so -/
def LsAll (R : Res) (M : Nat) (P : V → Prop) : VP := fun u H => ∃ p xs, u = .ref p ∧ H p = some (.lst xs) ∧ (p ∉ R.D ∧ p ∉ R.h) ∧ xs.length ≤ M ∧ ∀ x, x ∈ xs → P x
theorem ev_lc2 {j j1 M : Nat} {Z : Nat → V → Prop} {P : V → Prop} (hw : EvW R wi σ H n Y) (hn : n * M ≤ 1000) (hY : ∀ R' i H x H', Res.J R' H → i < n → Y i H x H' → Gv R' H H' ∧ Z i x)
    (hσ : ∀ x, wipe ((wipe σ vs).set j (some x)) vs = wipe σ vs)
    (inner : ∀ D, H D = none → ∀ i x, i < n → Z i x → ∃ (m : Nat) (Y1 : Nat → Hp → V → Hp → Prop) (Z1 : Nat → V → Prop), m ≤ M ∧ EvW (R.add D) wi1 ((wipe σ vs).set j (some x)) H m Y1 ∧ (∀ R' k H x H', Res.J R' H → k < m → Y1 k H x H' → Gv R' H H' ∧ Z1 k x) ∧
      (∀ y, wipe ((wipe ((wipe σ vs).set j (some x)) vs1).set j1 (some y)) vs1 = wipe ((wipe σ vs).set j (some x)) vs1) ∧ ∀ k y, k < m → Z1 k y → EvP (R.add D) te ((wipe ((wipe σ vs).set j (some x)) vs1).set j1 (some y)) H (fun u _ => P u)) :
    EvP R (tLc2 wi (gName j) tYes wi1 (gName j1) tYes te vs vs1) σ H (LsAll R (n * M) P) := fun H0 a0 Q q => hw H0 a0 _ fun J H1 G a1 W hG => fun D hD => by
  have hd := off a1.1.1 hD
  have hD0 : H D = none := (a0.trans a1).back hD
  have ne : ∀ x, x ∈ R.h → x ≠ D := fun x hx z => hd.2 (by rw [← z]; exact hx)
  have base : ∀ {H2 : Hp}, Gr (R.add D) H1 H2 → Gr (R.add D) H H2 := fun {H2} g => ⟨g.1, fun x o e m k => g.2 x o ((a0.trans a1).2 x o e m fun z => k (List.mem_cons_of_mem _ z)) m k⟩
  have inh : ∀ x, x ∈ R.h → x ∈ (R.add D).h := fun x hx => List.mem_cons_of_mem _ hx
  refine ⟨fun i m H' => i ≤ n ∧ m = n - i ∧ (Gr (R.add D) H1 H' ∧ ∀ x, x ∈ R.h → H' x = H1 x) ∧ ∃ xs, H' D = some (.lst xs) ∧ xs.length ≤ i * M ∧ ∀ x, x ∈ xs → P x,
    ⟨n, Nat.zero_le _, rfl, ⟨add_new a1.1.1 hD, fun x hx => upd_ne (ne x hx)⟩, [], upd_same, Nat.zero_le _, fun x hx => nomatch hx⟩, fun i m H2 hW => ?_⟩
  obtain ⟨hi, hm, ⟨g2, k2⟩, xs, hx, hl, hP⟩ := hW
  have G2 := hG H2 (add_into hD g2)
  by_cases hin : i = n
  · subst hin
    have gr : Gv R H1 H2 := ⟨add_into hD g2, k2⟩
    exact .inl ⟨W.stops H2 G2, q _ _ (a1.trans gr) ⟨D, xs, rfl, hx, hd, hl, hP⟩⟩
  · have lt : i < n := by omega
    refine .inr ⟨W.goes i H2 lt G2, fun H' => (Gr (R.add D) H1 H' ∧ ∀ x, x ∈ R.h → H' x = H1 x) ∧ ∃ xs, H' D = some (.lst xs) ∧ xs.length ≤ (i + 1) * M ∧ ∀ x, x ∈ xs → P x, fun H' h => ⟨n - (i + 1), by omega, by omega, rfl, h⟩, fun x H3 y => ?_⟩
    obtain ⟨g3, z⟩ := hY (R.add D) i H2 x H3 g2.1 lt (W.yields i H2 x H3 lt G2 y)
    obtain ⟨m1, Y1, Z1, hm1, hw1, hY1, hσ1, ht⟩ := inner D hD0 i x lt z
    have gv3 : Gv (R.add D) H2 H3 := g3
    refine ⟨hσ x, et_yes (R := R.add D) (σ := (wipe σ vs).set j (some x)) (H := H3) H3 (Gr.refl gv3.1.1) _ fun H4 g4 => ?_⟩
    refine (if_pos rfl).mpr ?_
    have g24 := gv3.trans g4
    refine hw1 H4 (base (g2.trans g24)) _ fun J1 H5 G1 a5 W1 hG1 => ?_
    have g25 := g24.trans a5
    refine ⟨fun k m H' => k ≤ m1 ∧ m = m1 - k ∧ Gr (R.add D) H5 H' ∧ (Gr (R.add D) H1 H' ∧ ∀ x, x ∈ R.h → H' x = H1 x) ∧ ∃ xs, H' D = some (.lst xs) ∧ xs.length ≤ i * M + k ∧ ∀ x, x ∈ xs → P x,
      ⟨m1, Nat.zero_le _, rfl, Gr.refl a5.1.1, ⟨g2.trans g25, fun x hx => (g25.2 x (inh x hx)).trans (k2 x hx)⟩, xs, (g25.2 D List.mem_cons_self).trans hx, hl, hP⟩, fun k m H6 hW1 => ?_⟩
    obtain ⟨hk, _, g56, ⟨g6, k6⟩, xs6, hx6, hl6, hP6⟩ := hW1
    have G6 := hG1 H6 g56
    by_cases hkm : k = m1
    · subst hkm
      refine .inl ⟨W1.stops H6 G6, ⟨g6, k6⟩, xs6, hx6, ?_, hP6⟩
      rw [Nat.add_mul, Nat.one_mul]
      omega
    · have ltk : k < m1 := by omega
      refine .inr ⟨W1.goes k H6 ltk G6, fun H' => Gr (R.add D) H5 H' ∧ (Gr (R.add D) H1 H' ∧ ∀ x, x ∈ R.h → H' x = H1 x) ∧ ∃ xs, H' D = some (.lst xs) ∧ xs.length ≤ i * M + (k + 1) ∧ ∀ x, x ∈ xs → P x, fun H' h => ⟨m1 - (k + 1), by omega, by omega, rfl, h⟩, fun y H7 yy => ?_⟩
      obtain ⟨g7, z1⟩ := hY1 (R.add D) k H6 y H7 g6.1 ltk (W1.yields k H6 y H7 ltk G6 yy)
      refine ⟨hσ1 y, et_yes (R := R.add D) (σ := (wipe ((wipe σ vs).set j (some x)) vs1).set j1 (some y)) (H := H7) H7 (Gr.refl g7.1.1) _ fun H8 g8 => ?_⟩
      refine (if_pos rfl).mpr ?_
      have g68 := g7.trans g8
      refine ht k y ltk z1 H8 (base (g6.trans g68)) _ fun v H9 g9 pv => ?_
      have g69 := g68.trans g9
      have hD9 : H9 D = some (.lst xs6) := (g69.2 D List.mem_cons_self).trans hx6
      have gm : Gr (R.add D) H9 (upd H9 D (.lst (xs6 ++ [v]))) := add_mut hd g9.at.1
      refine ⟨xs6, hD9, ?_, (g56.trans g69).tr gm, ⟨(g6.trans g69).tr gm, fun x hx => (upd_ne (ne x hx)).trans ((g69.2 x (inh x hx)).trans (k6 x hx))⟩, _, upd_same, ?_, fun x hx => ?_⟩
      · have h1 : i * M + m1 ≤ n * M := by
          have : (i + 1) * M ≤ n * M := Nat.mul_le_mul_right M lt
          rw [Nat.add_mul, Nat.one_mul] at this
          omega
        exact small1000 (by omega)
      · rw [List.length_append, List.length_singleton]
        omega
      · rcases List.mem_append.mp hx with h | h
        · exact hP6 x h
        · rw [List.mem_singleton.mp h]
          exact pv
/-- all of a list of true things -/
theorem ev_allT {M : Nat} (h : EvP R te σ H (LsAll R M fun x => x = .bl true)) : EvP R (tCB (rAll K) (tCons te tNil)) σ H (Is (.bl true)) := fun H1 g Q q =>
  h H1 g _ fun v H2 g2 ⟨p, xs, e, hp, _, _, hx⟩ => by
    have ex : xs = (List.replicate xs.length true).map V.bl := by
      rw [List.map_replicate]
      exact List.eq_replicate_iff.mpr ⟨rfl, hx⟩
    refine ⟨p, List.replicate xs.length true, by rw [e], by rw [← ex]; exact .inl (.inl hp), ?_⟩
    have : (List.replicate xs.length true).all id = true := by simp
    rw [this]
    exact q _ H2 g2 rfl
end
end Fk
namespace Fk
open PySem PySem.Spec PyProof.Rows L2
theorem sl_or {X : Cx} {r1 r2 : V → Option Int → Option Int → Hp → VK → Prop} (h1 : SlR X r1) (h2 : SlR X r2) : SlR X (fun x lo hi H Q => r1 x lo hi H Q ∨ r2 x lo hi H Q) := fun pins s σ H x v vl vu lo hi sl Q I a b c d q => q.elim (h1 pins s σ H x v vl vu lo hi sl Q I a b c d) (h2 pins s σ H x v vl vu lo hi sl Q I a b c d)
section
variable {K : PySem.W.Frag} {R : Res} {σ : L2.St} {H Hc : Hp} {ta tb te : TE} {xs : List V} {to1 to2 : TO}
theorem ev_slLT {lo hi : Option Int} (ha : EvP R ta σ H (LTN R xs)) (hl : EvO R to1 σ H lo) (hh : EvO R to2 σ H hi) : EvP R (tSl (fun x lo hi H Q => rSlL K x lo hi H Q ∨ rSlA K x lo hi H Q) ta to1 to2) σ H (LTN R (cutV xs lo hi)) := fun H0 g0 Q q =>
  ha H0 g0 _ fun x H1 g1 px => hl H1 (g0.trans g1) _ fun H2 g2 => hh H2 (g0.trans (g1.trans g2)) _ fun H3 g3 => by
    obtain ⟨p, e, h, hd⟩ := stb_ltn x _ _ (g2.trans g3).1 px
    rcases h with h | h
    · exact .inl ⟨p, xs, e, .inl (.inl h), fun l hl' => q _ _ ((g1.trans (g2.trans g3)).trans (Gv.new g3.1.1 hl')) ⟨l, rfl, .inl upd_same, off g3.1.1 hl'⟩⟩
    · exact .inr ⟨p, xs, e, .inl (.inl h), fun w => q _ _ (g1.trans (g2.trans g3)) ⟨p, rfl, .inr (by rw [cut_whole w]; exact h), hd⟩, fun _ l hl' => q _ _ ((g1.trans (g2.trans g3)).trans (Gv.new g3.1.1 hl')) ⟨l, rfl, .inr upd_same, off g3.1.1 hl'⟩⟩
end
end Fk
namespace Fk
open PySem PySem.Spec PyProof.Rows L2
theorem ix_or {X : Cx} {r1 r2 : R2} (h1 : IxR X r1) (h2 : IxR X r2) : IxR X (fun x y H Q => r1 x y H Q ∨ r2 x y H Q) := fun value slice pins s σ H x y v u Q I a b q => q.elim (h1 value slice pins s σ H x y v u Q I a b) (h2 value slice pins s σ H x y v u Q I a b)
section
variable {K : PySem.W.Frag} {R : Res} {σ : L2.St} {H Hc : Hp} {ta tb te : TE} {xs : List V} {v : V}
theorem ev_ixLT {i : Int} (ha : EvP R ta σ H (LTN R xs)) (hb : EvP R tb σ H (Is (.int i))) (hx : atI xs i = some v) : EvP R (tOp (fun x y H Q => rIxL K x y H Q ∨ rIxT K x y H Q) ta tb) σ H (Is v) := fun H0 g0 Q q =>
  ha H0 g0 _ fun x H1 g1 px => hb H1 (g0.trans g1) _ fun y H2 g2 ey => by
    cases ey
    obtain ⟨p, e, h, hd⟩ := stb_ltn x _ _ g2.1 px
    cases e
    rcases h with h | h
    · have := (ev_ixL (K := K) (R := R) (σ := σ) (H := H2) (ta := tC (.ref p)) (tb := tC (.int i)) (ev_L (ev_cP fun H' g => ⟨p, rfl, g.2 p _ h hd.1 hd.2, hd⟩)) ev_c hx) H2 (Gr.refl g2.1.1) Q fun u H3 g3 e => q u H3 ((g1.trans g2).trans g3) e
      exact .inl this
    · have := (ev_ixT (K := K) (R := R) (σ := σ) (H := H2) (ta := tC (.ref p)) (tb := tC (.int i)) (ev_U (ev_cP fun H' g => ⟨p, rfl, g.2 p _ h hd.1 hd.2, hd⟩)) ev_c hx) H2 (Gr.refl g2.1.1) Q fun u H3 g3 e => q u H3 ((g1.trans g2).trans g3) e
      exact .inr this
end
end Fk
namespace Fk
open PySem PySem.Spec PyProof.Rows L2
theorem pe_or {X : Cx} {e : Expr} {t1 t2 : TE} (h1 : PE X e t1) (h2 : PE X e t2) : PE X e (fun σ H Q => t1 σ H Q ∨ t2 σ H Q) := ⟨fun pins s σ H Q I q => q.elim (h1.run pins s σ H Q I) (h2.run pins s σ H Q I)⟩
end Fk
namespace Fk
open PySem PySem.Spec PyProof.Rows L2
theorem pi_tupK {X : Cx} {K : PySem.W.Frag} (e : X.K = K) {tg l : Expr} {tl : TE} (h : PE X l tl) : PI X tg l (iTup K tl) := by
  subst e
  exact pi_tup h
end Fk

/-! Forkpolls: some of the texts of a list, as draws choose. -/
namespace Fk
open PySem PySem.Spec PyProof.Rows L2
section
variable {K : PySem.W.Frag} {R : Res} {σ : L2.St} {H Hc : Hp} {te : TE} {tt : TT} {wi : TI} {vs : List Nat}
theorem ev_lcF {j : Nat} {ws : List Str} (hw : EvW R wi σ H ws.length (YAt (ws.map V.str))) (hn : ws.length ≤ 1000)
    (hσ : ∀ x, wipe ((wipe σ vs).set j (some x)) vs = wipe σ vs)
    (he : ∀ D, H D = none → ∀ z, z ∈ ws → EvB (R.add D) tt ((wipe σ vs).set j (some (.str z))) H ∧ EvP (R.add D) te ((wipe σ vs).set j (some (.str z))) H (Is (.str z))) :
    EvP R (tLc wi (gName j) tt te vs) σ H (fun u H => ∃ ys : List Str, ys.Sublist ws ∧ LstN R (ys.map V.str) u H) := fun H0 a0 Q q => hw H0 a0 _ fun J H1 G a1 W hG => fun D hD => by
  have hd := off a1.1.1 hD
  have hD0 : H D = none := (a0.trans a1).back hD
  have ne : ∀ x, x ∈ R.h → x ≠ D := fun x hx z => hd.2 (by rw [← z]; exact hx)
  have base : ∀ {H2 : Hp}, Gr (R.add D) H1 H2 → Gr (R.add D) H H2 := fun {H2} g => ⟨g.1, fun x o e m k => g.2 x o ((a0.trans a1).2 x o e m fun z => k (List.mem_cons_of_mem _ z)) m k⟩
  refine lc_it W (fun i H' => (Gr (R.add D) H1 H' ∧ ∀ x, x ∈ R.h → H' x = H1 x) ∧ ∃ ys : List Str, H' D = some (.lst (ys.map V.str)) ∧ ys.Sublist (ws.take i)) ⟨⟨add_new a1.1.1 hD, fun x hx => upd_ne (ne x hx)⟩, [], upd_same, by simp⟩ (fun i H' hi p => hG H' (add_into hD p.1.1)) (fun i x H2 H3 hi p y => ?_) fun H' p => ?_
  · obtain ⟨⟨g2, k2⟩, ys, hx, sub⟩ := p
    obtain ⟨y1, y2⟩ := y
    subst y1
    rw [List.getElem?_map] at y2
    obtain ⟨z, hz, rfl⟩ := Option.map_eq_some_iff.mp y2
    obtain ⟨et, ee⟩ := he D hD0 z (List.mem_of_getElem? hz)
    have tk : ws.take (i + 1) = ws.take i ++ [z] := take_snoc hz
    refine ⟨hσ _, et _ (base g2) _ fun b H4 g4 => ?_⟩
    have inh : ∀ x, x ∈ R.h → x ∈ (R.add D).h := fun x hx => List.mem_cons_of_mem _ hx
    have hD4 : H4 D = some (.lst (ys.map V.str)) := (g4.2 D List.mem_cons_self).trans hx
    cases b with
    | false =>
      refine (if_neg Bool.false_ne_true).mpr ⟨⟨g2.trans g4, fun x hx => (g4.2 x (inh x hx)).trans (k2 x hx)⟩, ys, hD4, ?_⟩
      rw [tk]
      exact sub.trans (List.sublist_append_left _ _)
    | true =>
      refine (if_pos rfl).mpr (ee H4 (base (g2.trans g4)) _ fun v H5 g5 ev => ?_)
      cases ev
      have g25 := g4.trans g5
      have hD5 : H5 D = some (.lst (ys.map V.str)) := (g25.2 D List.mem_cons_self).trans hx
      have gm : Gr (R.add D) H5 (upd H5 D (.lst (ys.map V.str ++ [V.str z]))) := add_mut hd g5.at.1
      refine ⟨ys.map V.str, hD5, ?_, ⟨(g2.trans g25).tr gm, fun x hx => (upd_ne (ne x hx)).trans ((g25.2 x (inh x hx)).trans (k2 x hx))⟩, ys ++ [z], by rw [upd_same, List.map_append]; rfl, ?_⟩
      · have := sub.length_le
        rw [List.length_take] at this
        rw [List.length_map]
        exact small1000 (by omega)
      · rw [tk]
        exact sub.append (List.Sublist.refl _)
  · obtain ⟨⟨g2, k2⟩, ys, hx, sub⟩ := p
    have gr : Gv R H1 H' := ⟨add_into hD g2, k2⟩
    rw [List.take_length] at sub
    exact q _ _ (a1.trans gr) ⟨ys, sub, D, rfl, hx, hd⟩
end
end Fk

/-! Forkpolls: what is walked, one rule for lists, tuples and texts: which of them it is may be known behind the reading alone. -/
namespace Vi
open PySem PySem.Spec PyProof.Rows L2
def iAny (K : PySem.W.Frag) (tl : TE) : TI := fun σ H Z => tl σ H fun x H1 => (∃ a xs, x = .ref a ∧ SqL K H1 a xs ∧ Z (Itl K a) H1) ∨ (∃ a xs, x = .ref a ∧ SqT K H1 a xs ∧ Z (Itt K a) H1) ∨ ∃ z, x = .str z ∧ Z (Its z) H1
theorem fpNew {X : Cx} {pins : List (Addr × Obj)} {σ : L2.St} {H : Hp} {s : Shared} (I : Inv X pins σ H s) {c : Addr} (hc : c ∈ [s.heap.objs.size]) : FpOk X pins H c := by
  rw [List.mem_singleton.mp hc]
  exact I.fpOk (Nat.le_refl _) (I.hok.fresh (Nat.le_refl _))
theorem pi_any {X : Cx} {tg l : Expr} {tl : TE} (hl : PE X l tl) : PI X tg l (iAny X.K tl) := ⟨fun pins s σ H Z I h => by
  refine thn (hl.run pins s σ H _ I h) fun u t ⟨x, G, J, ru, w⟩ => ?_
  rcases w with ⟨a, xs, rfl, hs, z⟩ | ⟨a, xs, rfl, hs, z⟩ | ⟨y, rfl, z⟩
  · cases ru
    have ⟨vs, _, po, _⟩ := J.list hs
    exact wpAny_pyIter_list po.isList ⟨_, _, _, _, G, rfl, J.kept (t' := t.toks) (fun c o e => Heap.get?_push_of_some _ e), turn_list a t.heap.objs.size, ⟨_, Heap.get?_push_size _ rfl, rfl, rfl⟩, fun c hc => fpNew J hc, z⟩
  · cases ru
    have ⟨vs, _, po, _⟩ := J.tuple hs
    exact wpAny_pyIter_tuple (show t.heap.IsTuple a vs.toArray from po) ⟨_, _, _, _, G, rfl, J.kept (t' := t.toks) (fun c o e => Heap.get?_push_of_some _ e), turn_tuple a t.heap.objs.size, ⟨_, Heap.get?_push_size _ rfl, rfl, rfl⟩, fun c hc => fpNew J hc, z⟩
  · obtain ⟨k, rfl⟩ := ru
    cases ha : y.cps.all (· < 128) with
    | false => exact wpAny_pyIter_wide ha (pi_one (tk := t.toks) J _ (turn_str _ y k "str_iterator" (.inr rfl)) ⟨_, Heap.get?_push_size _ rfl, rfl, rfl⟩ z)
    | true => exact wpAny_pyIter_ascii ha (pi_one (tk := t.toks) J _ (turn_str _ y k "str_ascii_iterator" (.inl rfl)) ⟨_, Heap.get?_push_size _ rfl, rfl, rfl⟩ z)⟩
end Vi

/-! Values as trees, and what programs make of them: the mathematics, without a heap. -/
namespace Vi
open PySem

/-- a dict's key, or a part of one -/
inductive KS where
  | i (n : Int) | s (z : List Nat)
  deriving DecidableEq
/-- a value, seen from the outside: objects that are not changed any more -/
inductive T where
  | non | bl (b : Bool) | int (i : Int) | str (z : List Nat)
  | lst (ts : List T) | tup (ts : List T) | kt (ts : List T)
  | dK (ks : List KS) (ts : List T) | dT (ks : List (List KS)) (ts : List T)
  | ins (c : Nat) (ns : List (List Nat)) (ts : List T)
  | ty (n : String) | cl (c : Nat) | dl
/-- a run: it ends, fails, raises, or draws one of n numbers -/
inductive Prog (α : Type) where
  | ret (a : α) | fail | exc (c : Nat) (ns : List (List Nat)) (ts : List T) | draw (n : Nat) (k : Nat → Prog α)
def Prog.bind {α β : Type} : Prog α → (α → Prog β) → Prog β
  | .ret a, f => f a
  | .fail, _ => .fail
  | .exc c ns ts, _ => .exc c ns ts
  | .draw n k, f => .draw n fun i => (k i).bind f
/-- whatever is drawn, it ends with Φ, or raises with Ψ -/
def Prog.All {α : Type} : Prog α → (α → Prop) → (Nat → List (List Nat) → List T → Prop) → Prop
  | .ret a, Φ, _ => Φ a
  | .fail, _, _ => False
  | .exc c ns ts, _, Ψ => Ψ c ns ts
  | .draw n k, Φ, Ψ => 0 < n ∧ n ≤ 1000000 ∧ ∀ i, i < n → (k i).All Φ Ψ
section
variable {α β : Type} {Φ Φ' : α → Prop} {Θ : β → Prop} {Ψ Ψ' : Nat → List (List Nat) → List T → Prop}
theorem all_bind : ∀ {p : Prog α} {f : α → Prog β}, (p.bind f).All Θ Ψ ↔ p.All (fun a => (f a).All Θ Ψ) Ψ
  | .ret a, f => Iff.rfl
  | .fail, f => Iff.rfl
  | .exc .., f => Iff.rfl
  | .draw n k, f => and_congr Iff.rfl (and_congr Iff.rfl (forall_congr' fun i => imp_congr Iff.rfl all_bind))
theorem all_imp (h : ∀ a, Φ a → Φ' a) (hx : ∀ c ns ts, Ψ c ns ts → Ψ' c ns ts) : ∀ {p : Prog α}, p.All Φ Ψ → p.All Φ' Ψ'
  | .ret a, q => h a q
  | .fail, q => q
  | .exc .., q => hx _ _ _ q
  | .draw n k, q => ⟨q.1, q.2.1, fun i hi => all_imp h hx (q.2.2 i hi)⟩
end
def opt {α : Type} : Option α → Prog α
  | some a => .ret a
  | none => .fail
theorem all_opt {α : Type} {o : Option α} {Φ : α → Prop} {Ψ : Nat → List (List Nat) → List T → Prop} : (opt o).All Φ Ψ ↔ ∃ a, o = some a ∧ Φ a := by
  cases o with
  | none => exact ⟨fun h => h.elim, fun ⟨_, e, _⟩ => nomatch e⟩
  | some a => exact ⟨fun h => ⟨a, rfl, h⟩, fun ⟨b, e, h⟩ => by cases e; exact h⟩
/-- the slots of a def: not there, shared -/
abbrev Env := List (Option T)
abbrev M (α : Type) := Env → Prog α
def zs (z : List Nat) : Str := ⟨z.toArray⟩
theorem zs_inj {a b : List Nat} (h : zs a = zs b) : a = b := by
  have := congrArg (fun x : Str => x.cps.toList) h
  simpa [zs] using this
theorem zs_list (z : Str) : zs z.cps.toList = z := by
  cases z; simp [zs]
def KS.key : KS → L2.Key
  | .i n => .inl n
  | .s z => .inr (zs z)
/-! ### reading a slot -/
def vVar (i : Nat) : M T := fun ρ => match ρ[i]? with
  | some (some t) => .ret t
  | _ => .fail
def vC (t : T) : M T := fun _ => .ret t
def v1 (f : T → Option T) (a : M T) : M T := fun ρ => (a ρ).bind fun x => opt (f x)
def v2 (f : T → T → Option T) (a b : M T) : M T := fun ρ => (a ρ).bind fun x => (b ρ).bind fun y => opt (f x y)
def vArgs : List (M T) → M (List T)
  | [], _ => .ret []
  | m :: ms, ρ => (m ρ).bind fun x => (vArgs ms ρ).bind fun xs => .ret (x :: xs)
def toB : T → Option Bool
  | .bl b => some b
  | _ => none
/-- truth -/
def tru : T → Option Bool
  | .bl b => some b
  | .lst ts => some !ts.isEmpty
  | .tup ts => some !ts.isEmpty
  | .kt ts => some !ts.isEmpty
  | .str z => some !z.isEmpty
  | .int i => some (i != 0)
  | .non => some false
  | _ => none
def vT (a : M T) : M Bool := fun ρ => (a ρ).bind fun x => opt (toB x)
def vTru (a : M T) : M Bool := fun ρ => (a ρ).bind fun x => opt (tru x)
def vAndT (a b : M Bool) : M Bool := fun ρ => (a ρ).bind fun x => if x = true then b ρ else .ret false
def vOrT (a b : M Bool) : M Bool := fun ρ => (a ρ).bind fun x => if x = true then .ret true else b ρ
def vNotT (a : M Bool) : M Bool := fun ρ => (a ρ).bind fun x => .ret !x
def vBl (a : M Bool) : M T := fun ρ => (a ρ).bind fun x => .ret (.bl x)
def vIf (c : M Bool) (a b : M T) : M T := fun ρ => (c ρ).bind fun x => if x = true then a ρ else b ρ
end Vi

/-! Values as trees in a heap. -/
namespace Vi
open PySem PySem.Spec PyProof.Rows L2 Fk

/-- the text's own: the written part, the classes by their numbers, the def that draws -/
structure VC where
  K : PySem.W.Frag
  w : World
  cl : Nat → Addr
  dsp : Sp
  /-- the second argument y: it draws lo + i, i below n -/
  dok : V → Int → Nat → Prop := fun y lo n => y = .int n ∧ lo = 0
/-- who holds v may draw -/
def VC.dl (C : VC) (R : Res) (v : V) (H : Hp) : Prop := ∀ (y : V) (lo : Int) (n : Nat) (Q : VK) (E : XK), C.dok y lo n → R.J H → 0 < n → n ≤ 1000000 → (∀ i : Nat, i < n → ∀ H', Gv R H H' → Q (.int (lo + i)) H') → C.dsp [v, y] H Q E
mutual
/-- v shows t; L: what is known of the heap -/
inductive Rp (C : VC) (dl : V → Hp → Prop) (L : (Hp → Prop) → Prop) : V → T → Prop
  | non : Rp C dl L .non .non
  | bl (b : Bool) : Rp C dl L (.bl b) (.bl b)
  | int (i : Int) : Rp C dl L (.int i) (.int i)
  | str (z : List Nat) : Rp C dl L (.str (zs z)) (.str z)
  | ty (n : String) : Rp C dl L (.ty n) (.ty n)
  | cl (c : Nat) : Rp C dl L (.ref (C.cl c)) (.cl c)
  | dl {v : V} : L (dl v) → Rp C dl L v .dl
  | lst {a : Addr} {xs : List V} {ts : List T} : L (fun H => H a = some (.lst xs)) → Rps C dl L xs ts → Rp C dl L (.ref a) (.lst ts)
  | tup {a : Addr} {xs : List V} {ts : List T} : L (fun H => H a = some (.tup xs)) → Rps C dl L xs ts → Rp C dl L (.ref a) (.tup ts)
  | kt {a : Addr} {xs : List V} {ts : List T} : (∀ H, SqT C.K H a xs) → Rps C dl L xs ts → Rp C dl L (.ref a) (.kt ts)
  | dK {a : Addr} {kvs : List (Key × V)} {ks : List KS} {ts : List T} : L (fun H => H a = some (.dK kvs)) → kvs.map (·.1) = ks.map KS.key → Rps C dl L (kvs.map (·.2)) ts → Rp C dl L (.ref a) (.dK ks ts)
  | dT {a : Addr} {kvs : List (List Key × V)} {ks : List (List KS)} {ts : List T} : L (fun H => H a = some (.dT kvs)) → kvs.map (·.1) = ks.map (fun k => k.map KS.key) → Rps C dl L (kvs.map (·.2)) ts → Rp C dl L (.ref a) (.dT ks ts)
  | ins {a dx : Addr} {c : Nat} {fs : List (Str × V)} {ns : List (List Nat)} {ts : List T} : L (fun H => H a = some (.ins (C.cl c) dx fs)) → fs.map (·.1) = ns.map zs → Rps C dl L (fs.map (·.2)) ts → Rp C dl L (.ref a) (.ins c ns ts)
inductive Rps (C : VC) (dl : V → Hp → Prop) (L : (Hp → Prop) → Prop) : List V → List T → Prop
  | nil : Rps C dl L [] []
  | cons {v : V} {vs : List V} {t : T} {ts : List T} : Rp C dl L v t → Rps C dl L vs ts → Rps C dl L (v :: vs) (t :: ts)
end
section
variable {C : VC} {dl dl' : V → Hp → Prop} {L L' : (Hp → Prop) → Prop}
mutual
theorem Rp.imp (hd : ∀ v, L (dl v) → L' (dl' v)) (hL : ∀ φ, L φ → L' φ) : ∀ {t : T} {v : V}, Rp C dl L v t → Rp C dl' L' v t
  | .non, _, h => by cases h; exact .non
  | .bl _, _, h => by cases h; exact .bl _
  | .int _, _, h => by cases h; exact .int _
  | .str _, _, h => by cases h; exact .str _
  | .ty _, _, h => by cases h; exact .ty _
  | .cl _, _, h => by cases h; exact .cl _
  | .dl, _, h => by cases h with | dl h => exact .dl (hd _ h)
  | .lst _, _, h => by cases h with | lst h1 h2 => exact .lst (hL _ h1) (Rps.imp hd hL h2)
  | .tup _, _, h => by cases h with | tup h1 h2 => exact .tup (hL _ h1) (Rps.imp hd hL h2)
  | .kt _, _, h => by cases h with | kt h1 h2 => exact .kt h1 (Rps.imp hd hL h2)
  | .dK _ _, _, h => by cases h with | dK h1 h2 h3 => exact .dK (hL _ h1) h2 (Rps.imp hd hL h3)
  | .dT _ _, _, h => by cases h with | dT h1 h2 h3 => exact .dT (hL _ h1) h2 (Rps.imp hd hL h3)
  | .ins _ _ _, _, h => by cases h with | ins h1 h2 h3 => exact .ins (hL _ h1) h2 (Rps.imp hd hL h3)
theorem Rps.imp (hd : ∀ v, L (dl v) → L' (dl' v)) (hL : ∀ φ, L φ → L' φ) : ∀ {ts : List T} {vs : List V}, Rps C dl L vs ts → Rps C dl' L' vs ts
  | [], _, h => by cases h; exact .nil
  | _ :: _, _, h => by cases h with | cons h1 h2 => exact .cons (Rp.imp hd hL h1) (Rps.imp hd hL h2)
end
end
def Rep (C : VC) (R : Res) (t : T) : VP := fun v H => Rp C (C.dl R) (fun φ => Al R φ H) v t
def Reps (C : VC) (R : Res) (ts : List T) (vs : List V) (H : Hp) : Prop := Rps C (C.dl R) (fun φ => Al R φ H) vs ts
section
variable {C : VC} {R : Res} {H H' : Hp} {t : T} {v : V} {ts us : List T} {vs ws : List V} {dl : V → Hp → Prop} {L : (Hp → Prop) → Prop}
theorem Rep.gr (g : Gr R H H') (h : Rep C R t v H) : Rep C R t v H' := Rp.imp (fun _ z => Al.gr g z) (fun _ z => Al.gr g z) h
theorem stb_rep : Stb R (Rep C R t) := fun _ _ _ g h => h.gr g
theorem Reps.gr (g : Gr R H H') (h : Reps C R ts vs H) : Reps C R ts vs H' := Rps.imp (fun _ z => Al.gr g z) (fun _ z => Al.gr g z) h
theorem Rps.len : ∀ {ts : List T} {vs : List V}, Rps C dl L vs ts → vs.length = ts.length
  | [], _, h => by cases h; rfl
  | _ :: _, _, h => by cases h with | cons h1 h2 => exact congrArg Nat.succ (Rps.len h2)
theorem Rps.app : ∀ {ts us : List T} {vs ws : List V}, Rps C dl L vs ts → Rps C dl L ws us → Rps C dl L (vs ++ ws) (ts ++ us)
  | [], _, _, _, h, k => by cases h; exact k
  | _ :: _, _, _, _, h, k => by cases h with | cons h1 h2 => exact .cons h1 (Rps.app h2 k)
theorem Rps.get : ∀ {ts : List T} {vs : List V} {i : Nat} {t : T}, Rps C dl L vs ts → ts[i]? = some t → ∃ v, vs[i]? = some v ∧ Rp C dl L v t
  | [], _, _, _, _, e => by simp at e
  | _ :: _, _, 0, _, h, e => by cases h with | cons h1 h2 => cases e; exact ⟨_, rfl, h1⟩
  | _ :: _, _, i + 1, _, h, e => by cases h with | cons h1 h2 => exact Rps.get (i := i) h2 (by simpa using e)
theorem Rps.getV : ∀ {ts : List T} {vs : List V} {i : Nat} {v : V}, Rps C dl L vs ts → vs[i]? = some v → ∃ t, ts[i]? = some t ∧ Rp C dl L v t
  | [], _, _, _, h, e => by cases h; simp at e
  | _ :: _, _, 0, _, h, e => by cases h with | cons h1 h2 => cases e; exact ⟨_, rfl, h1⟩
  | _ :: _, _, i + 1, _, h, e => by cases h with | cons h1 h2 => exact Rps.getV (i := i) h2 (by simpa using e)
theorem Rps.take : ∀ {ts : List T} {vs : List V} (n : Nat), Rps C dl L vs ts → Rps C dl L (vs.take n) (ts.take n)
  | _, _, 0, _ => .nil
  | [], _, n + 1, h => by cases h; exact .nil
  | _ :: _, _, n + 1, h => by cases h with | cons h1 h2 => exact .cons h1 (Rps.take n h2)
theorem Rps.drop : ∀ {ts : List T} {vs : List V} (n : Nat), Rps C dl L vs ts → Rps C dl L (vs.drop n) (ts.drop n)
  | _, _, 0, h => h
  | [], _, n + 1, h => by cases h; exact .nil
  | _ :: _, _, n + 1, h => by cases h with | cons h1 h2 => exact Rps.drop n h2
theorem Rps.rev : ∀ {ts : List T} {vs : List V}, Rps C dl L vs ts → Rps C dl L vs.reverse ts.reverse
  | [], _, h => by cases h; exact .nil
  | _ :: _, _, h => by
    cases h with
    | cons h1 h2 =>
      rw [List.reverse_cons, List.reverse_cons]
      exact Rps.app (Rps.rev h2) (.cons h1 .nil)
theorem Reps.len (h : Reps C R ts vs H) : vs.length = ts.length := Rps.len h
theorem rep_non : Rep C R .non .non H := .non
theorem rep_bl {b : Bool} : Rep C R (.bl b) (.bl b) H := .bl b
theorem rep_int {i : Int} : Rep C R (.int i) (.int i) H := .int i
theorem rep_str {z : List Nat} : Rep C R (.str z) (.str (zs z)) H := .str z
theorem rep_tup {p : Addr} (hp : H p = some (.tup vs)) (hd : p ∉ R.D ∧ p ∉ R.h) (h : Reps C R ts vs H) : Rep C R (.tup ts) (.ref p) H := .tup (fun H' g => g.2 p _ hp hd.1 hd.2) h
theorem rep_lst {p : Addr} (hp : H p = some (.lst vs)) (hd : p ∉ R.D ∧ p ∉ R.h) (h : Reps C R ts vs H) : Rep C R (.lst ts) (.ref p) H := .lst (fun H' g => g.2 p _ hp hd.1 hd.2) h
theorem rep_ins {p dx : Addr} {c : Nat} {ns : List (List Nat)} {fs : List (Str × V)} (hp : H p = some (.ins (C.cl c) dx fs)) (hd : p ∉ R.D ∧ p ∉ R.h) (hn : fs.map (·.1) = ns.map zs) (h : Reps C R ts (fs.map (·.2)) H) : Rep C R (.ins c ns ts) (.ref p) H :=
  .ins (fun H' g => g.2 p _ hp hd.1 hd.2) hn h
theorem rep_dK {p : Addr} {ks : List KS} {kvs : List (Key × V)} (hp : H p = some (.dK kvs)) (hd : p ∉ R.D ∧ p ∉ R.h) (hn : kvs.map (·.1) = ks.map KS.key) (h : Reps C R ts (kvs.map (·.2)) H) : Rep C R (.dK ks ts) (.ref p) H :=
  .dK (fun H' g => g.2 p _ hp hd.1 hd.2) hn h
theorem rep_dT {p : Addr} {ks : List (List KS)} {kvs : List (List Key × V)} (hp : H p = some (.dT kvs)) (hd : p ∉ R.D ∧ p ∉ R.h) (hn : kvs.map (·.1) = ks.map (fun k => k.map KS.key)) (h : Reps C R ts (kvs.map (·.2)) H) : Rep C R (.dT ks ts) (.ref p) H :=
  .dT (fun H' g => g.2 p _ hp hd.1 hd.2) hn h
theorem gv_add {p : Addr} {H' : Hp} (hd : p ∉ R.D ∧ p ∉ R.h) (j : (R.add p).J H) (g : Gv R H H') : Gv (R.add p) H H' := by
  have e : H' p = H p := by
    cases z : H p with
    | none => exact absurd z j.2
    | some o => exact g.1.2 p o z hd.1 hd.2
  refine ⟨⟨⟨g.1.1, by rw [e]; exact j.2⟩, fun x o e n k => g.1.2 x o e n fun z => k (List.mem_cons_of_mem _ z)⟩, fun x hx => ?_⟩
  rcases List.mem_cons.mp hx with z | z
  · rw [z]; exact e
  · exact g.2 x z
theorem gv_sub {p : Addr} {H' : Hp} (g : Gv (R.add p) H H') : Gv R H H' := ⟨⟨g.1.1.1, fun x o e n k => by
  by_cases z : x = p
  · rw [z]; rw [z] at e; rw [g.2 p List.mem_cons_self]; exact e
  · exact g.1.2 x o e n fun m => by
      rcases List.mem_cons.mp m with m | m
      · exact z m
      · exact k m⟩, fun x hx => g.2 x (List.mem_cons_of_mem _ hx)⟩
/-- an object of which facts may speak again -/
theorem Rep.out {p : Addr} {o : HO} (hp : H p = some o) (hd : p ∉ R.D ∧ p ∉ R.h) (h : Rep C (R.add p) t v H) : Rep C R t v H :=
  Rp.imp (fun v z => fun H' g y lo n Q E ok j h0 h1 q => z H' (add_out hp hd g) y lo n Q E ok (add_out hp hd g).1 h0 h1 fun i hi H2 g2 => q i hi H2 (gv_sub g2)) (fun _ z => al_out hp hd z) h
theorem Reps.out {p : Addr} {o : HO} (hp : H p = some o) (hd : p ∉ R.D ∧ p ∉ R.h) (h : Reps C (R.add p) ts vs H) : Reps C R ts vs H :=
  Rps.imp (fun v z => fun H' g y lo n Q E ok j h0 h1 q => z H' (add_out hp hd g) y lo n Q E ok (add_out hp hd g).1 h0 h1 fun i hi H2 g2 => q i hi H2 (gv_sub g2)) (fun _ z => al_out hp hd z) h
/-- a new object, of which no fact speaks -/
theorem Rep.into {p : Addr} (hn : H p = none) (hd : p ∉ R.D ∧ p ∉ R.h) (h : Rep C R t v H) : Rep C (R.add p) t v H :=
  Rp.imp (fun v z => fun H' g y lo n Q E ok j h0 h1 q => z H' (add_into hn g) y lo n Q E ok j.1 h0 h1 fun i hi H2 g2 => q i hi H2 (gv_add hd j g2)) (fun _ z => al_into hn z) h
theorem Reps.into {p : Addr} (hn : H p = none) (hd : p ∉ R.D ∧ p ∉ R.h) (h : Reps C R ts vs H) : Reps C (R.add p) ts vs H :=
  Rps.imp (fun v z => fun H' g y lo n Q E ok j h0 h1 q => z H' (add_into hn g) y lo n Q E ok j.1 h0 h1 fun i hi H2 g2 => q i hi H2 (gv_add hd j g2)) (fun _ z => al_into hn z) h
end
end Vi

/-! Readings that come to what a run says. -/
namespace Vi
open PySem PySem.Spec PyProof.Rows L2 Fk
abbrev XP := Nat → List (List Nat) → List T → Prop
/-- an exception's own dict -/
def XAt (C : VC) (R : Res) (d : Option Addr) (ns : List (List Nat)) (ts : List T) (H : Hp) : Prop := match d with
  | none => ns = [] ∧ ts = []
  | some a => ∃ fs, H a = some (.xd fs) ∧ (a ∉ R.D ∧ a ∉ R.h) ∧ fs.map (·.1) = ns.map zs ∧ Reps C R ts (fs.map (·.2)) H
def XOk (C : VC) (E : XK) (R : Res) (Ψ : XP) (H : Hp) : Prop := ∀ c ns ts d H', Gr R H H' → Ψ c ns ts → XAt C R d ns ts H' → E (.ref (C.cl c)) d H'
def SlE (C : VC) (R : Res) (ρ : Env) (σ : L2.St) (H : Hp) : Prop := ρ.length ≤ σ.length ∧ ∀ (i : Nat) (t : T), ρ[i]? = some (some t) → ∃ v, σ[i]? = some (some v) ∧ Rep C R t v H
def EvTP (R : Res) (tt : TT) (σ : L2.St) (H : Hp) (P : Bool → Prop) : Prop := ∀ H1, Gr R H H1 → ∀ Q : Bool → Hp → Prop, (∀ b H2, Gv R H1 H2 → P b → Q b H2) → tt σ H1 Q
def EvAP (R : Res) (ta : TA) (σ : L2.St) (H : Hp) (P : List V → Hp → Prop) : Prop := ∀ H1, Gr R H H1 → ∀ Q : List V → Hp → Prop, (∀ vs H2, Gv R H1 H2 → P vs H2 → Q vs H2) → ta σ H1 Q
/-- te comes to what m says -/
def SE (C : VC) (E : XK) (te : TE) (m : M T) : Prop := ∀ (R : Res) (σ : L2.St) (H : Hp) (ρ : Env) (Φ : T → Prop) (Ψ : XP), SlE C R ρ σ H → XOk C E R Ψ H → (m ρ).All Φ Ψ → EvP R te σ H (fun v H' => ∃ t, Φ t ∧ Rep C R t v H')
def ST (C : VC) (E : XK) (tt : TT) (m : M Bool) : Prop := ∀ (R : Res) (σ : L2.St) (H : Hp) (ρ : Env) (Φ : Bool → Prop) (Ψ : XP), SlE C R ρ σ H → XOk C E R Ψ H → (m ρ).All Φ Ψ → EvTP R tt σ H Φ
def SA (C : VC) (E : XK) (ta : TA) (m : M (List T)) : Prop := ∀ (R : Res) (σ : L2.St) (H : Hp) (ρ : Env) (Φ : List T → Prop) (Ψ : XP), SlE C R ρ σ H → XOk C E R Ψ H → (m ρ).All Φ Ψ → EvAP R ta σ H (fun vs H' => ∃ ts, Φ ts ∧ Reps C R ts vs H')
section
variable {C : VC} {E : XK} {R : Res} {H H' : Hp} {ρ : Env} {σ : L2.St} {Ψ : XP}
theorem SlE.gr (g : Gr R H H') (h : SlE C R ρ σ H) : SlE C R ρ σ H' := ⟨h.1, fun i t e => let ⟨v, a, b⟩ := h.2 i t e; ⟨v, a, b.gr g⟩⟩
theorem XOk.gr (g : Gr R H H') (h : XOk C E R Ψ H) : XOk C E R Ψ H' := fun c ns ts d H2 g2 => h c ns ts d H2 (g.tr g2)
end
/-- operations on values -/
def RO (C : VC) (r : R2) (f : T → T → Option T) : Prop := ∀ (R : Res) (x y : V) (tx ty t : T) (H : Hp), R.J H → Rep C R tx x H → Rep C R ty y H → f tx ty = some t → ∀ Q : VK, (∀ v H2, Gv R H H2 → Rep C R t v H2 → Q v H2) → r x y H Q
def RU (C : VC) (r : V → Hp → VK → Prop) (f : T → Option T) : Prop := ∀ (R : Res) (x : V) (tx t : T) (H : Hp), R.J H → Rep C R tx x H → f tx = some t → ∀ Q : VK, (∀ v H2, Gv R H H2 → Rep C R t v H2 → Q v H2) → r x H Q
def RC (C : VC) (r : List V → Hp → VK → Prop) (f : List T → Option T) : Prop := ∀ (R : Res) (xs : List V) (ts : List T) (t : T) (H : Hp), R.J H → Reps C R ts xs H → f ts = some t → ∀ Q : VK, (∀ v H2, Gv R H H2 → Rep C R t v H2 → Q v H2) → r xs H Q
/-- a method of a built-in thing that changes nothing -/
def RM (C : VC) (T0 : String) (r : V → List V → Hp → VK → Prop) (f : T → List T → Option T) : Prop := ∀ (R : Res) (x : V) (xs : List V) (tx : T) (ts : List T) (t : T) (H : Hp), R.J H → Rep C R tx x H → Reps C R ts xs H → f tx ts = some t → ∀ Q : VK, (∀ v H2, Gv R H H2 → Rep C R t v H2 → Q v H2) → r x xs H Q
def RTy (C : VC) (T0 : String) (f : T → List T → Option T) : Prop := ∀ (R : Res) (x : V) (tx : T) (H : Hp), R.J H → Rep C R tx x H → (∃ ts t, f tx ts = some t) → tyV C.K T0 x H
section
variable {C : VC} {E : XK} {ta tb te tc : TE} {tt tu : TT} {a b c : M T} {p q : M Bool} {r r' : R2} {f f' : T → T → Option T} {ms : M (List T)} {tA : TA}
theorem se_var (i : Nat) : SE C E (tVar i) (vVar i) := fun R σ H ρ Φ Ψ hs hx hA => by
  unfold vVar at hA
  cases e : ρ[i]? with
  | none => rw [e] at hA; exact hA.elim
  | some o =>
    cases o with
    | none => rw [e] at hA; exact hA.elim
    | some t =>
      rw [e] at hA
      obtain ⟨v, h1, h2⟩ := hs.2 i t e
      exact ev_var h1 fun H' g => ⟨t, hA, h2.gr g⟩
theorem se_c {v : V} {t : T} (h : ∀ R H, Rep C R t v H) : SE C E (tC v) (vC t) := fun R σ H ρ Φ Ψ hs hx hA => ev_cP fun H' _ => ⟨t, hA, h R H'⟩
theorem se_int {i : Int} : SE C E (tC (.int i)) (vC (.int i)) := se_c fun _ _ => .int i
theorem se_bl {k : Bool} : SE C E (tC (.bl k)) (vC (.bl k)) := se_c fun _ _ => .bl k
theorem se_non : SE C E (tC .non) (vC .non) := se_c fun _ _ => .non
theorem se_str {x : Str} {z : List Nat} (e : x = zs z) : SE C E (tC (.str x)) (vC (.str z)) := se_c fun _ _ => by rw [e]; exact .str z
theorem se_ty {n : String} : SE C E (tC (.ty n)) (vC (.ty n)) := se_c fun _ _ => .ty n
theorem se_cl (c : Nat) {x : Addr} (e : x = C.cl c) : SE C E (tC (.ref x)) (vC (.cl c)) := se_c fun _ _ => by rw [e]; exact .cl c
theorem se_op (ro : RO C r f) (ha : SE C E ta a) (hb : SE C E tb b) : SE C E (tOp r ta tb) (v2 f a b) := fun R σ H ρ Φ Ψ hs hx hA => fun H1 g Q k =>
  ha R σ H ρ _ Ψ hs hx (all_bind.mp hA) H1 g _ fun x H2 g2 ⟨tx, px, rx⟩ => hb R σ H ρ _ Ψ hs hx (all_bind.mp px) H2 (g.trans g2) _ fun y H3 g3 ⟨ty, py, ry⟩ => by
    obtain ⟨t, e, ht⟩ := all_opt.mp py
    exact ro R x y tx ty t H3 g3.1.1 (rx.gr g3.1) ry e Q fun v H4 g4 rv => k v H4 (g2.trans (g3.trans g4)) ⟨t, ht, rv⟩
theorem se_un {r : V → Hp → VK → Prop} {f : T → Option T} (ro : RU C r f) (ha : SE C E ta a) : SE C E (tUn r ta) (v1 f a) := fun R σ H ρ Φ Ψ hs hx hA => fun H1 g Q k =>
  ha R σ H ρ _ Ψ hs hx (all_bind.mp hA) H1 g _ fun x H2 g2 ⟨tx, px, rx⟩ => by
    obtain ⟨t, e, ht⟩ := all_opt.mp px
    exact ro R x tx t H2 g2.1.1 rx e Q fun v H4 g4 rv => k v H4 (g2.trans g4) ⟨t, ht, rv⟩
/-! ### tests -/
theorem st_B (h : SE C E te a) : ST C E (tB te) (vT a) := fun R σ H ρ Φ Ψ hs hx hA => fun H1 g Q k =>
  h R σ H ρ _ Ψ hs hx (all_bind.mp hA) H1 g _ fun v H2 g2 ⟨t, pt, rt⟩ => by
    obtain ⟨b, e, hb⟩ := all_opt.mp pt
    cases t with
    | bl c => cases e; cases rt; exact ⟨b, rfl, k b H2 g2 hb⟩
    | _ => exact nomatch e
theorem st_test (h : SE C E te a) : ST C E (tTest te) (vT a) := fun R σ H ρ Φ Ψ hs hx hA => fun H1 g Q k =>
  h R σ H ρ _ Ψ hs hx (all_bind.mp hA) H1 g _ fun v H2 g2 ⟨t, pt, rt⟩ => by
    obtain ⟨b, e, hb⟩ := all_opt.mp pt
    cases t with
    | bl c => cases e; cases rt; exact ⟨b, rfl, k b H2 g2 hb⟩
    | _ => exact nomatch e
theorem st_not (h : ST C E tt p) : ST C E (tNot tt) (vNotT p) := fun R σ H ρ Φ Ψ hs hx hA => fun H1 g Q k => h R σ H ρ _ Ψ hs hx (all_bind.mp hA) H1 g _ fun b H2 g2 hb => k (!b) H2 g2 hb
theorem st_and (h : ST C E tt p) (h2 : ST C E tu q) : ST C E (tAnd tt tu) (vAndT p q) := fun R σ H ρ Φ Ψ hs hx hA => fun H1 g Q k => h R σ H ρ _ Ψ hs hx (all_bind.mp hA) H1 g _ fun b H2 g2 hb => by
  cases b with
  | true => exact (if_pos rfl).mpr (h2 R σ H ρ Φ Ψ hs hx hb H2 (g.trans g2) Q fun c H3 g3 hc => k c H3 (g2.trans g3) hc)
  | false => exact (if_neg Bool.false_ne_true).mpr (k false H2 g2 hb)
theorem st_or (h : ST C E tt p) (h2 : ST C E tu q) : ST C E (tOr tt tu) (vOrT p q) := fun R σ H ρ Φ Ψ hs hx hA => fun H1 g Q k => h R σ H ρ _ Ψ hs hx (all_bind.mp hA) H1 g _ fun b H2 g2 hb => by
  cases b with
  | true => exact (if_pos rfl).mpr (k true H2 g2 hb)
  | false => exact (if_neg Bool.false_ne_true).mpr (h2 R σ H ρ Φ Ψ hs hx hb H2 (g.trans g2) Q fun c H3 g3 hc => k c H3 (g2.trans g3) hc)
theorem st_yes : ST C E tYes (fun _ => .ret true) := fun R σ H ρ Φ Ψ hs hx hA => fun H1 g Q k => k true H1 g.at hA
def vAndV (a b : M T) : M T := fun ρ => (a ρ).bind fun x => (opt (toB x)).bind fun k => if k = true then (b ρ) else .ret (.bl false)
def vOrV (a b : M T) : M T := fun ρ => (a ρ).bind fun x => (opt (toB x)).bind fun k => if k = true then .ret (.bl true) else b ρ
theorem se_andV (ha : SE C E ta a) (hb : SE C E tb b) : SE C E (tAndV ta tb) (vAndV a b) := fun R σ H ρ Φ Ψ hs hx hA => fun H1 g Q k =>
  ha R σ H ρ _ Ψ hs hx (all_bind.mp hA) H1 g _ fun x H2 g2 ⟨tx, px, rx⟩ => by
    obtain ⟨c, e, hc⟩ := all_opt.mp (all_bind.mp px)
    cases tx with
    | bl d =>
      cases e; cases rx
      refine ⟨c, rfl, ?_⟩
      cases c with
      | true => exact (if_pos rfl).mpr (hb R σ H ρ Φ Ψ hs hx hc H2 (g.trans g2) Q fun v H3 g3 hv => k v H3 (g2.trans g3) hv)
      | false => exact (if_neg Bool.false_ne_true).mpr (k _ H2 g2 ⟨.bl false, hc, .bl false⟩)
    | _ => exact nomatch e
theorem se_orV (ha : SE C E ta a) (hb : SE C E tb b) : SE C E (tOrV ta tb) (vOrV a b) := fun R σ H ρ Φ Ψ hs hx hA => fun H1 g Q k =>
  ha R σ H ρ _ Ψ hs hx (all_bind.mp hA) H1 g _ fun x H2 g2 ⟨tx, px, rx⟩ => by
    obtain ⟨c, e, hc⟩ := all_opt.mp (all_bind.mp px)
    cases tx with
    | bl d =>
      cases e; cases rx
      refine ⟨c, rfl, ?_⟩
      cases c with
      | true => exact (if_pos rfl).mpr (k _ H2 g2 ⟨.bl true, hc, .bl true⟩)
      | false => exact (if_neg Bool.false_ne_true).mpr (hb R σ H ρ Φ Ψ hs hx hc H2 (g.trans g2) Q fun v H3 g3 hv => k v H3 (g2.trans g3) hv)
    | _ => exact nomatch e
def vNotV (a : M T) : M T := v1 (fun t => (toB t).map fun k => .bl !k) a
theorem se_notV (ha : SE C E ta a) : SE C E (tNotV ta) (vNotV a) := fun R σ H ρ Φ Ψ hs hx hA => fun H1 g Q k =>
  ha R σ H ρ _ Ψ hs hx (all_bind.mp hA) H1 g _ fun x H2 g2 ⟨tx, px, rx⟩ => by
    obtain ⟨t, e, ht⟩ := all_opt.mp px
    cases tx with
    | bl d => cases e; cases rx; exact ⟨d, rfl, k _ H2 g2 ⟨_, ht, .bl _⟩⟩
    | _ => exact nomatch e
theorem se_if (hc : ST C E tt p) (ha : SE C E ta a) (hb : SE C E tb b) : SE C E (tIf tt ta tb) (vIf p a b) := fun R σ H ρ Φ Ψ hs hx hA => fun H1 g Q k => hc R σ H ρ _ Ψ hs hx (all_bind.mp hA) H1 g _ fun c H2 g2 h => by
  cases c with
  | true => exact (if_pos rfl).mpr (ha R σ H ρ Φ Ψ hs hx h H2 (g.trans g2) Q fun v H3 g3 hv => k v H3 (g2.trans g3) hv)
  | false => exact (if_neg Bool.false_ne_true).mpr (hb R σ H ρ Φ Ψ hs hx h H2 (g.trans g2) Q fun v H3 g3 hv => k v H3 (g2.trans g3) hv)
def vChain (f g : T → T → Option T) (a b c : M T) : M T := fun ρ => (a ρ).bind fun x => (b ρ).bind fun y => (opt (f x y)).bind fun z => (opt (toB z)).bind fun k => if k = true then (c ρ).bind fun w => opt (g y w) else .ret (.bl false)
theorem se_chain (r1 : RO C r f) (r2 : RO C r' f') (ha : SE C E ta a) (hb : SE C E tb b) (hc : SE C E tc c) : SE C E (tChain r r' ta tb tc) (vChain f f' a b c) := fun R σ H ρ Φ Ψ hs hx hA => fun H1 g Q k =>
  ha R σ H ρ _ Ψ hs hx (all_bind.mp hA) H1 g _ fun x H2 g2 ⟨tx, px, rx⟩ => hb R σ H ρ _ Ψ hs hx (all_bind.mp px) H2 (g.trans g2) _ fun y H3 g3 ⟨ty, py, ry⟩ => by
    obtain ⟨tz, e, hz⟩ := all_opt.mp (all_bind.mp py)
    obtain ⟨d, e2, hd⟩ := all_opt.mp (all_bind.mp hz)
    refine r1 R x y tx ty tz H3 g3.1.1 (rx.gr g3.1) ry e _ fun v H4 g4 rv => ?_
    cases tz with
    | bl d' =>
      cases e2; cases rv
      refine ⟨d, rfl, ?_⟩
      have g24 := g2.trans (g3.trans g4)
      cases d with
      | true => exact (if_pos rfl).mpr (hc R σ H ρ _ Ψ hs hx (all_bind.mp hd) H4 (g.trans g24) _ fun w' H5 g5 ⟨tw, pw, rw'⟩ => by
          obtain ⟨t, e3, ht⟩ := all_opt.mp pw
          exact r2 R y w' ty tw t H5 g5.1.1 (ry.gr (g4.trans g5).1) rw' e3 Q fun u H6 g6 ru => k u H6 (g24.trans (g5.trans g6)) ⟨t, ht, ru⟩)
      | false => exact (if_neg Bool.false_ne_true).mpr (k _ H4 g24 ⟨.bl false, hd, .bl false⟩)
    | _ => exact nomatch e2
/-! ### arguments -/
theorem sa_nil : SA C E tNil (vArgs []) := fun R σ H ρ Φ Ψ hs hx hA => fun H1 g Q k => k [] H1 g.at ⟨[], hA, .nil⟩
theorem sa_cons {mm : List (M T)} (ha : SE C E ta a) (hr : SA C E tA (vArgs mm)) : SA C E (tCons ta tA) (vArgs (a :: mm)) := fun R σ H ρ Φ Ψ hs hx hA => fun H1 g Q k =>
  ha R σ H ρ _ Ψ hs hx (all_bind.mp hA) H1 g _ fun x H2 g2 ⟨tx, px, rx⟩ => hr R σ H ρ _ Ψ hs hx (all_bind.mp px) H2 (g.trans g2) _ fun xs H3 g3 ⟨ts, ps, rs⟩ => k (x :: xs) H3 (g2.trans g3) ⟨tx :: ts, ps, .cons (rx.gr g3.1) rs⟩
def vCB (f : List T → Option T) (ms : M (List T)) : M T := fun ρ => (ms ρ).bind fun ts => opt (f ts)
theorem se_cb {r : List V → Hp → VK → Prop} {f : List T → Option T} (rc : RC C r f) (h : SA C E tA ms) : SE C E (tCB r tA) (vCB f ms) := fun R σ H ρ Φ Ψ hs hx hA => fun H1 g Q k =>
  h R σ H ρ _ Ψ hs hx (all_bind.mp hA) H1 g _ fun xs H2 g2 ⟨ts, ps, rs⟩ => by
    obtain ⟨t, e, ht⟩ := all_opt.mp ps
    exact rc R xs ts t H2 g2.1.1 rs e Q fun v H3 g3 rv => k v H3 (g2.trans g3) ⟨t, ht, rv⟩
def vBM (f : T → List T → Option T) (a : M T) (ms : M (List T)) : M T := fun ρ => (a ρ).bind fun x => (ms ρ).bind fun ts => opt (f x ts)
/-- the tuple, the list of these -/
def vTup (ms : M (List T)) : M T := fun ρ => (ms ρ).bind fun ts => if ts.length ≤ 1000000 then .ret (.tup ts) else .fail
def vLst (ms : M (List T)) : M T := fun ρ => (ms ρ).bind fun ts => if ts.length ≤ 1000000 then .ret (.lst ts) else .fail
theorem big {n : Nat} (h : n ≤ 1000000) : n ≤ sizeLine := Nat.le_trans h (by decide)
theorem se_tup (h : SA C E tA ms) : SE C E (tTup tA) (vTup ms) := fun R σ H ρ Φ Ψ hs hx hA => fun H1 g Q k =>
  h R σ H ρ _ Ψ hs hx (all_bind.mp hA) H1 g _ fun xs H2 g2 ⟨ts, ps, rs⟩ => by
    have l := rs.len
    by_cases hl : ts.length ≤ 1000000
    · rw [if_pos hl] at ps
      refine ⟨big (by omega), fun p hp => ?_⟩
      have g3 := Gv.new (o := .tup xs) g2.1.1 hp
      exact k _ _ (g2.trans g3) ⟨_, ps, rep_tup upd_same (off g2.1.1 hp) (rs.gr g3.1)⟩
    · rw [if_neg hl] at ps; exact ps.elim
theorem se_lst (h : SA C E tA ms) : SE C E (tLst tA) (vLst ms) := fun R σ H ρ Φ Ψ hs hx hA => fun H1 g Q k =>
  h R σ H ρ _ Ψ hs hx (all_bind.mp hA) H1 g _ fun xs H2 g2 ⟨ts, ps, rs⟩ => by
    have l := rs.len
    by_cases hl : ts.length ≤ 1000000
    · rw [if_pos hl] at ps
      refine ⟨big (by omega), fun p hp => ?_⟩
      have g3 := Gv.new (o := .lst xs) g2.1.1 hp
      exact k _ _ (g2.trans g3) ⟨_, ps, rep_lst upd_same (off g2.1.1 hp) (rs.gr g3.1)⟩
    · rw [if_neg hl] at ps; exact ps.elim
end
end Vi

/-! Statements: slots that hold what is shared, or a list, a dict of the def's own. -/
namespace Vi
open PySem PySem.Spec PyProof.Rows L2 Fk
inductive Slot where
  | no | sh (t : T) | own (ts : List T) | self (c : Nat) (ns : List (List Nat)) (ts : List T) | ownK (ks : List KS) (ts : List T) | ownT (ks : List (List KS)) (ts : List T)
abbrev EnvS := List Slot
inductive Out where
  | nx (ρ : EnvS) | rt (t : T) | bk (ρ : EnvS) | ct (ρ : EnvS)
abbrev MS := EnvS → Prog Out
def wth (R : Res) : List Addr → Res
  | [] => R
  | p :: ps => (wth R ps).add p
section
variable {R : Res} {H H' : Hp} {ps : List Addr} {C : VC} {t : T} {v : V} {ts : List T} {vs : List V}
theorem wth_D : ∀ {ps : List Addr}, (wth R ps).D = R.D
  | [] => rfl
  | _ :: ps => wth_D (ps := ps)
theorem wth_h : ∀ {ps : List Addr} {x : Addr}, x ∈ (wth R ps).h ↔ x ∈ ps ∨ x ∈ R.h
  | [], x => ⟨.inr, fun h => h.elim (fun z => absurd z List.not_mem_nil) id⟩
  | p :: ps, x => by
    show x ∈ p :: (wth R ps).h ↔ _
    rw [List.mem_cons, wth_h (ps := ps), List.mem_cons]
    constructor
    · rintro (h | h | h)
      · exact .inl (.inl h)
      · exact .inl (.inr h)
      · exact .inr h
    · rintro ((h | h) | h)
      · exact .inl h
      · exact .inr (.inl h)
      · exact .inr (.inr h)
theorem wth_J : ∀ {ps : List Addr}, (wth R ps).J H ↔ R.J H ∧ ∀ p, p ∈ ps → H p ≠ none
  | [] => ⟨fun h => ⟨h, fun p hp => absurd hp List.not_mem_nil⟩, fun h => h.1⟩
  | q :: ps => by
    show (wth R ps).J H ∧ H q ≠ none ↔ _
    rw [wth_J (ps := ps)]
    constructor
    · rintro ⟨⟨h1, h2⟩, h3⟩
      exact ⟨h1, fun p hp => (List.mem_cons.mp hp).elim (fun e => by rw [e]; exact h3) (h2 p)⟩
    · rintro ⟨h1, h2⟩
      exact ⟨⟨h1, fun p hp => h2 p (List.mem_cons_of_mem _ hp)⟩, h2 q List.mem_cons_self⟩
/-- the def's own objects, each once -/
def Ow (R : Res) : List Addr → Prop
  | [] => True
  | p :: ps => (p ∉ (wth R ps).D ∧ p ∉ (wth R ps).h) ∧ Ow R ps
theorem Ow.off : ∀ {ps : List Addr} {p : Addr}, Ow R ps → p ∈ ps → p ∉ R.D ∧ p ∉ R.h
  | q :: ps, p, h, hp => by
    rcases List.mem_cons.mp hp with e | e
    · rw [e]
      exact ⟨fun z => h.1.1 (by rw [wth_D]; exact z), fun z => h.1.2 (wth_h.mpr (.inr z))⟩
    · exact Ow.off h.2 e
theorem rep_out : ∀ {ps : List Addr}, Ow R ps → (∀ p, p ∈ ps → H p ≠ none) → Rep C (wth R ps) t v H → Rep C R t v H
  | [], _, _, h => h
  | p :: ps, o, n, h => by
    cases e : H p with
    | none => exact absurd e (n p List.mem_cons_self)
    | some u => exact rep_out o.2 (fun q hq => n q (List.mem_cons_of_mem _ hq)) (Rep.out e o.1 h)
theorem reps_out : ∀ {ps : List Addr}, Ow R ps → (∀ p, p ∈ ps → H p ≠ none) → Reps C (wth R ps) ts vs H → Reps C R ts vs H
  | [], _, _, h => h
  | p :: ps, o, n, h => by
    cases e : H p with
    | none => exact absurd e (n p List.mem_cons_self)
    | some u => exact reps_out o.2 (fun q hq => n q (List.mem_cons_of_mem _ hq)) (Reps.out e o.1 h)
theorem gv_wth : ∀ {ps : List Addr}, Ow R ps → (wth R ps).J H → Gv R H H' → Gv (wth R ps) H H'
  | [], _, _, g => g
  | p :: ps, o, j, g => gv_add o.1 j (gv_wth o.2 j.1 g)
end
section
variable (C : VC) (R : Res)
def SlotOk (ps : List Addr) (sx : Option Addr) : Slot → Option V → Hp → Prop
  | .no, _, _ => True
  | .sh t, some v, H => Rep C (wth R ps) t v H
  | .own ts, some (.ref p), H => p ∈ ps ∧ ∃ vs, H p = some (.lst vs) ∧ Reps C (wth R ps) ts vs H
  | .self c ns ts, some (.ref p), H => p ∈ ps ∧ sx = some p ∧ ∃ dx fs, H p = some (.ins (C.cl c) dx fs) ∧ fs.map (·.1) = ns.map zs ∧ Reps C (wth R ps) ts (fs.map (·.2)) H
  | .ownK ks ts, some (.ref p), H => p ∈ ps ∧ ∃ kvs, H p = some (.dK kvs) ∧ kvs.map (·.1) = ks.map KS.key ∧ Reps C (wth R ps) ts (kvs.map (·.2)) H
  | .ownT ks ts, some (.ref p), H => p ∈ ps ∧ ∃ kvs, H p = some (.dT kvs) ∧ kvs.map (·.1) = ks.map (fun k => k.map KS.key) ∧ Reps C (wth R ps) ts (kvs.map (·.2)) H
  | _, _, _ => False
def isOwn : Slot → Bool
  | .no => false
  | .sh _ => false
  | _ => true
structure StOk (sx : Option Addr) (H0 : Hp) (ps : List Addr) (ρ : EnvS) (σ : L2.St) (H : Hp) : Prop where
  ow : Ow R ps
  fr : ∀ p, p ∈ ps → H0 p = none ∨ sx = some p
  gr : ∀ x o, H0 x = some o → x ∉ R.D → x ∉ R.h → sx ≠ some x → H x = some o
  kp : ∀ x, x ∈ R.h → H x = H0 x
  j : (wth R ps).J H
  nt : ∀ p, p ∈ ps → ∀ xs, H p ≠ some (.tup xs)
  len : ρ.length = σ.length
  sl : ∀ (i : Nat) (s : Slot) (o : Option V), ρ[i]? = some s → σ[i]? = some o → SlotOk C R ps sx s o H
  ds : ∀ (i j : Nat) (s s' : Slot) (p : Addr), ρ[i]? = some s → ρ[j]? = some s' → isOwn s = true → isOwn s' = true → σ[i]? = some (some (.ref p)) → σ[j]? = some (some (.ref p)) → i = j
end
section
variable {C : VC} {R : Res} {sx : Option Addr} {H0 H H' : Hp} {ps : List Addr} {ρ : EnvS} {σ : L2.St} {s : Slot} {o : Option V} {t : T} {v : V}
theorem SlotOk.gv (g : Gv (wth R ps) H H') (h : SlotOk C R ps sx s o H) : SlotOk C R ps sx s o H' := by
  have hd : ∀ p, p ∈ ps → H' p = H p := fun p hp => g.2 p (wth_h.mpr (.inl hp))
  cases s with
  | no => exact True.intro
  | sh t => cases o with
    | none => exact h.elim
    | some v => exact Rep.gr g.1 h
  | own ts => cases o with
    | none => exact h.elim
    | some v => cases v with
      | ref p => obtain ⟨h1, vs, h2, h3⟩ := h; exact ⟨h1, vs, (hd p h1).trans h2, h3.gr g.1⟩
      | _ => exact h.elim
  | self c ns ts => cases o with
    | none => exact h.elim
    | some v => cases v with
      | ref p => obtain ⟨h1, h0, dx, fs, h2, h3, h4⟩ := h; exact ⟨h1, h0, dx, fs, (hd p h1).trans h2, h3, h4.gr g.1⟩
      | _ => exact h.elim
  | ownK ks ts => cases o with
    | none => exact h.elim
    | some v => cases v with
      | ref p => obtain ⟨h1, kvs, h2, h3, h4⟩ := h; exact ⟨h1, kvs, (hd p h1).trans h2, h3, h4.gr g.1⟩
      | _ => exact h.elim
  | ownT ks ts => cases o with
    | none => exact h.elim
    | some v => cases v with
      | ref p => obtain ⟨h1, kvs, h2, h3, h4⟩ := h; exact ⟨h1, kvs, (hd p h1).trans h2, h3, h4.gr g.1⟩
      | _ => exact h.elim
/-- what evaluating leaves -/
theorem StOk.gv (g : Gv (wth R ps) H H') (h : StOk C R sx H0 ps ρ σ H) : StOk C R sx H0 ps ρ σ H' where
  ow := h.ow
  fr := h.fr
  gr := fun x u e n m k => by
    by_cases hx : x ∈ ps
    · rcases h.fr x hx with z | z
      · rw [z] at e; cases e
      · exact absurd z k
    · exact g.1.2 x u (h.gr x u e n m k) (by rw [wth_D]; exact n) fun z => (wth_h.mp z).elim hx m
  kp := fun x hx => (g.2 x (wth_h.mpr (.inr hx))).trans (h.kp x hx)
  j := g.1.1
  nt := fun p hp xs => by rw [g.2 p (wth_h.mpr (.inl hp))]; exact h.nt p hp xs
  len := h.len
  sl := fun i s o a b => (h.sl i s o a b).gv g
  ds := h.ds
theorem StOk.pres (h : StOk C R sx H0 ps ρ σ H) : ∀ p, p ∈ ps → H p ≠ none := (wth_J.mp h.j).2
theorem StOk.jr (h : StOk C R sx H0 ps ρ σ H) : R.J H := (wth_J.mp h.j).1
end
/-- the slots that are shared; all slots as they are now -/
def seeS : Slot → Option T
  | .sh t => some t
  | _ => none
def seeA : Slot → Option T
  | .no => none
  | .sh t => some t
  | .own ts => some (.lst ts)
  | .self c ns ts => some (.ins c ns ts)
  | .ownK ks ts => some (.dK ks ts)
  | .ownT ks ts => some (.dT ks ts)
section
variable {C : VC} {E : XK} {R : Res} {sx : Option Addr} {H0 H H' : Hp} {ps : List Addr} {ρ : EnvS} {σ : L2.St} {Ψ : XP} {te : TE} {m : M T}
theorem StOk.shown (h : StOk C R sx H0 ps ρ σ H) : SlE C (wth R ps) (ρ.map seeS) σ H := ⟨by rw [List.length_map, h.len]; exact Nat.le_refl _, fun i t e => by
  rw [List.getElem?_map] at e
  obtain ⟨s, hs, e⟩ := Option.map_eq_some_iff.mp e
  cases s with
  | sh u =>
    cases e
    have lt : i < σ.length := by rw [← h.len]; exact (List.getElem?_eq_some_iff.mp hs).1
    have := h.sl i _ _ hs (List.getElem?_eq_getElem lt)
    cases q : σ[i] with
    | none => rw [q] at this; exact this.elim
    | some v => rw [q] at this; exact ⟨v, by rw [List.getElem?_eq_getElem lt, q], this⟩
  | _ => simp [Vi.seeS] at e⟩
theorem StOk.all (h : StOk C R sx H0 ps ρ σ H) : SlE C R (ρ.map seeA) σ H := ⟨by rw [List.length_map, h.len]; exact Nat.le_refl _, fun i t e => by
  rw [List.getElem?_map] at e
  obtain ⟨s, hs, e⟩ := Option.map_eq_some_iff.mp e
  have lt : i < σ.length := by rw [← h.len]; exact (List.getElem?_eq_some_iff.mp hs).1
  have hk := h.sl i _ _ hs (List.getElem?_eq_getElem lt)
  have hn := h.pres
  cases q : σ[i] with
  | none => rw [q] at hk; cases s <;> first | exact (hk : False).elim | (simp [Vi.seeA] at e)
  | some v =>
    rw [q] at hk
    have hv : σ[i]? = some (some v) := by rw [List.getElem?_eq_getElem lt, q]
    cases s with
    | no => simp [Vi.seeA] at e
    | sh u => cases e; exact ⟨v, hv, rep_out h.ow hn hk⟩
    | own ts => cases v with
      | ref p => cases e; obtain ⟨h1, vs, h2, h3⟩ := hk; exact ⟨_, hv, rep_lst h2 (h.ow.off h1) (reps_out h.ow hn h3)⟩
      | _ => exact hk.elim
    | self c ns ts => cases v with
      | ref p => cases e; obtain ⟨h1, h0, dx, fs, h2, h3, h4⟩ := hk; exact ⟨_, hv, rep_ins h2 (h.ow.off h1) h3 (reps_out h.ow hn h4)⟩
      | _ => exact hk.elim
    | ownK ks ts => cases v with
      | ref p => cases e; obtain ⟨h1, kvs, h2, h3, h4⟩ := hk; exact ⟨_, hv, rep_dK h2 (h.ow.off h1) h3 (reps_out h.ow hn h4)⟩
      | _ => exact hk.elim
    | ownT ks ts => cases v with
      | ref p => cases e; obtain ⟨h1, kvs, h2, h3, h4⟩ := hk; exact ⟨_, hv, rep_dT h2 (h.ow.off h1) h3 (reps_out h.ow hn h4)⟩
      | _ => exact hk.elim⟩
/-- what is wanted of exceptions that leave the def -/
def XOkF (C : VC) (E : XK) (R : Res) (sx : Option Addr) (Ψ : XP) (H0 : Hp) : Prop := ∀ c ns ts d H', R.J H' → (∀ x o, H0 x = some o → x ∉ R.D → x ∉ R.h → sx ≠ some x → H' x = some o) → Ψ c ns ts → XAt C R d ns ts H' → E (.ref (C.cl c)) d H'
theorem XOkF.atS (x : XOkF C E R sx Ψ H0) (h : StOk C R sx H0 ps ρ σ H) : XOk C E (wth R ps) Ψ H := fun c ns ts d H' g hΨ hd => by
  have hn : ∀ p, p ∈ ps → H' p ≠ none := (wth_J.mp g.1).2
  refine x c ns ts d H' (wth_J.mp g.1).1 (fun y o e n m k => ?_) hΨ ?_
  · by_cases hy : y ∈ ps
    · rcases h.fr y hy with z | z
      · rw [z] at e; cases e
      · exact absurd z k
    · exact g.2 y o (h.gr y o e n m k) (by rw [wth_D]; exact n) fun z => (wth_h.mp z).elim hy m
  · cases d with
    | none => exact hd
    | some a =>
      obtain ⟨fs, h1, ⟨h2, h2'⟩, h3, h4⟩ := hd
      exact ⟨fs, h1, ⟨fun z => h2 (by rw [wth_D]; exact z), fun z => h2' (wth_h.mpr (.inr z))⟩, h3, reps_out h.ow hn h4⟩
theorem XOkF.atA (x : XOkF C E R sx Ψ H0) (h : StOk C R sx H0 ps ρ σ H) : XOk C E R Ψ H := fun c ns ts d H' g hΨ hd => x c ns ts d H' g.1 (fun y o e n m k => g.2 y o (h.gr y o e n m k) n m) hΨ hd
/-- an expression in a statement, its value to be kept while own things change -/
theorem SE.runS (s : SE C E te m) (h : StOk C R sx H0 ps ρ σ H) (x : XOkF C E R sx Ψ H0) {Φ : T → Prop} (hA : (m (ρ.map Vi.seeS)).All Φ Ψ) {Q : VK} (k : ∀ v H2 t, Gv (wth R ps) H H2 → StOk C R sx H0 ps ρ σ H2 → Φ t → Rep C (wth R ps) t v H2 → Q v H2) : te σ H Q :=
  s (wth R ps) σ H (ρ.map Vi.seeS) Φ Ψ h.shown (x.atS h) hA H (Gr.refl h.j) Q fun v H2 g ⟨t, ht, rt⟩ => k v H2 t g (h.gv g) ht rt
/-- .. with all slots as they are now -/
theorem SE.runA (s : SE C E te m) (h : StOk C R sx H0 ps ρ σ H) (x : XOkF C E R sx Ψ H0) {Φ : T → Prop} (hA : (m (ρ.map Vi.seeA)).All Φ Ψ) {Q : VK} (k : ∀ v H2 t, Gv (wth R ps) H H2 → StOk C R sx H0 ps ρ σ H2 → Φ t → Rep C R t v H2 → Q v H2) : te σ H Q :=
  s R σ H (ρ.map Vi.seeA) Φ Ψ h.all (x.atA h) hA H (Gr.refl h.jr) Q fun v H2 g ⟨t, ht, rt⟩ => k v H2 t (gv_wth h.ow h.j g) (h.gv (gv_wth h.ow h.j g)) ht rt
theorem ST.runA {tt : TT} {mb : M Bool} (s : ST C E tt mb) (h : StOk C R sx H0 ps ρ σ H) (x : XOkF C E R sx Ψ H0) {Φ : Bool → Prop} (hA : (mb (ρ.map Vi.seeA)).All Φ Ψ) {Q : Bool → Hp → Prop} (k : ∀ b H2, StOk C R sx H0 ps ρ σ H2 → Φ b → Q b H2) : tt σ H Q :=
  s R σ H (ρ.map Vi.seeA) Φ Ψ h.all (x.atA h) hA H (Gr.refl h.jr) Q fun b H2 g hb => k b H2 (h.gv (gv_wth h.ow h.j g)) hb
end
/-- from the heap H, with ps, on to H', with ps' -/
def Ext (R : Res) (ps : List Addr) (H : Hp) (ps' : List Addr) (H' : Hp) : Prop := (∃ qs, ps' = qs ++ ps ∧ ∀ q, q ∈ qs → H q = none) ∧ ∀ x o, H x = some o → x ∉ R.D → x ∉ R.h → x ∉ ps → H' x = some o
/-- the ends of a statement -/
structure EndsOk (C : VC) (R : Res) (sx : Option Addr) (H0 : Hp) (ps0 : List Addr) (Hs : Hp) (Φ : Out → Prop) (D : Ends) : Prop where
  nx : ∀ ρ, Φ (.nx ρ) → ∀ ps σ H, StOk C R sx H0 ps ρ σ H → Ext R ps0 Hs ps H → D.nx σ H
  bk : ∀ ρ, Φ (.bk ρ) → ∀ ps σ H, StOk C R sx H0 ps ρ σ H → Ext R ps0 Hs ps H → D.bk σ H
  ct : ∀ ρ, Φ (.ct ρ) → ∀ ps σ H, StOk C R sx H0 ps ρ σ H → Ext R ps0 Hs ps H → D.ct σ H
  rt : ∀ t, Φ (.rt t) → ∀ v H, R.J H → (∀ x o, H0 x = some o → x ∉ R.D → x ∉ R.h → sx ≠ some x → H x = some o) → (∀ x, x ∈ R.h → H x = H0 x) → Rep C R t v H → D.rt v H
def SS (C : VC) (E : XK) (ts : TS) (m : MS) : Prop := ∀ (R : Res) (sx : Option Addr) (H0 : Hp) (ps : List Addr) (ρ : EnvS) (σ : L2.St) (H : Hp) (Φ : Out → Prop) (Ψ : XP) (D : Ends), StOk C R sx H0 ps ρ σ H → XOkF C E R sx Ψ H0 → (m ρ).All Φ Ψ → EndsOk C R sx H0 ps H Φ D → ts D σ H
section
variable {C : VC} {R : Res} {sx : Option Addr} {H0 H H1 H2 : Hp} {ps ps1 ps2 : List Addr} {ρ ρ1 : EnvS} {σ σ1 : L2.St} {t : T} {v : V} {ts : List T} {vs : List V}
theorem Ext.refl : Ext R ps H ps H := ⟨⟨[], rfl, fun q h => absurd h List.not_mem_nil⟩, fun _ _ e _ _ _ => e⟩
theorem Ext.gv (o : Ow R ps) (g : Gv (wth R ps) H H1) : Ext R ps H ps H1 := ⟨⟨[], rfl, fun q h => absurd h List.not_mem_nil⟩, fun x u e n m k => g.1.2 x u e (by rw [wth_D]; exact n) fun z => (wth_h.mp z).elim k m⟩
theorem Ext.trans (a : Ext R ps H ps1 H1) (j1 : (wth R ps1).J H1) (b : Ext R ps1 H1 ps2 H2) : Ext R ps H ps2 H2 := by
  obtain ⟨⟨qs, e1, f1⟩, g1⟩ := a
  obtain ⟨⟨rs, e2, f2⟩, g2⟩ := b
  obtain ⟨jr, jp⟩ := wth_J.mp j1
  refine ⟨⟨rs ++ qs, by rw [e2, e1, List.append_assoc], fun q hq => ?_⟩, fun x u e n m k => ?_⟩
  · rcases List.mem_append.mp hq with h | h
    · have hn := f2 q h
      cases z : H q with
      | none => rfl
      | some o =>
        by_cases k1 : q ∈ R.D
        · exact absurd hn (R.at_ H1 jr q (.inl k1))
        · by_cases k2 : q ∈ R.h
          · exact absurd hn (R.at_ H1 jr q (.inr k2))
          · by_cases k3 : q ∈ ps
            · exact absurd hn (jp q (by rw [e1]; exact List.mem_append_right _ k3))
            · rw [g1 q o z k1 k2 k3] at hn; cases hn
    · exact f1 q h
  · refine g2 x u (g1 x u e n m k) n m fun z => ?_
    rw [e1] at z
    rcases List.mem_append.mp z with h | h
    · rw [f1 x h] at e; cases e
    · exact k h
/-- what is shared is so with more things of one's own -/
theorem rep_into : ∀ {qs : List Addr}, Ow R (qs ++ ps) → (∀ q, q ∈ qs → H q = none) → Rep C (wth R ps) t v H → Rep C (wth R (qs ++ ps)) t v H
  | [], _, _, h => h
  | q :: qs, o, n, h => Rep.into (n q List.mem_cons_self) o.1 (rep_into o.2 (fun r hr => n r (List.mem_cons_of_mem _ hr)) h)
theorem reps_into : ∀ {qs : List Addr}, Ow R (qs ++ ps) → (∀ q, q ∈ qs → H q = none) → Reps C (wth R ps) ts vs H → Reps C (wth R (qs ++ ps)) ts vs H
  | [], _, _, h => h
  | q :: qs, o, n, h => Reps.into (n q List.mem_cons_self) o.1 (reps_into o.2 (fun r hr => n r (List.mem_cons_of_mem _ hr)) h)
theorem Ext.gr (a : Ext R ps H ps1 H1) (j1 : (wth R ps1).J H1) : Gr (wth R ps1) H H1 := ⟨j1, fun x u e n m => a.2 x u e (by rw [wth_D] at n; exact n) (fun z => m (wth_h.mpr (.inr z))) fun z => m (wth_h.mpr (.inl (by obtain ⟨⟨qs, e1, _⟩, _⟩ := a; rw [e1]; exact List.mem_append_right _ z)))⟩
theorem Ext.rep (a : Ext R ps H ps1 H1) (o : Ow R ps1) (j1 : (wth R ps1).J H1) (h : Rep C (wth R ps) t v H) : Rep C (wth R ps1) t v H1 := by
  have g := a.gr j1
  obtain ⟨⟨qs, e1, f1⟩, _⟩ := a
  subst e1
  exact (rep_into o f1 h).gr g
theorem Ext.reps (a : Ext R ps H ps1 H1) (o : Ow R ps1) (j1 : (wth R ps1).J H1) (h : Reps C (wth R ps) ts vs H) : Reps C (wth R ps1) ts vs H1 := by
  have g := a.gr j1
  obtain ⟨⟨qs, e1, f1⟩, _⟩ := a
  subst e1
  exact (reps_into o f1 h).gr g
theorem EndsOk.from_ {Φ : Out → Prop} {D : Ends} (a : Ext R ps H ps1 H1) (j1 : (wth R ps1).J H1) (h : EndsOk C R sx H0 ps H Φ D) : EndsOk C R sx H0 ps1 H1 Φ D :=
  ⟨fun ρ p ps σ H2 s e => h.nx ρ p ps σ H2 s (a.trans j1 e), fun ρ p ps σ H2 s e => h.bk ρ p ps σ H2 s (a.trans j1 e), fun ρ p ps σ H2 s e => h.ct ρ p ps σ H2 s (a.trans j1 e), h.rt⟩
end
end Vi

/-! Statements, one by one. -/
namespace Vi
open PySem PySem.Spec PyProof.Rows L2 Fk
section
variable {C : VC} {E : XK} {R : Res} {sx : Option Addr} {H0 H H1 H2 : Hp} {ps ps1 ps2 : List Addr} {ρ ρ1 : EnvS} {σ σ1 : L2.St} {t : T} {v : V} {ts : List T} {vs : List V} {i : Nat}
/-- a slot gets what is shared -/
theorem StOk.setSh (h : StOk C R sx H0 ps ρ σ H) (r : Rep C (wth R ps) t v H) : StOk C R sx H0 ps (ρ.set i (.sh t)) (σ.set i (some v)) H where
  ow := h.ow
  fr := h.fr
  gr := h.gr
  kp := h.kp
  j := h.j
  nt := h.nt
  len := by rw [List.length_set, List.length_set, h.len]
  sl := fun j s o a b => by
    by_cases e : i = j
    · subst e
      have l1 : i < ρ.length := by
        have := (List.getElem?_eq_some_iff.mp a).1
        rw [List.length_set] at this; exact this
      have l2 : i < σ.length := by rw [← h.len]; exact l1
      rw [List.getElem?_set_self l1] at a
      rw [List.getElem?_set_self l2] at b
      cases a; cases b
      exact r
    · rw [List.getElem?_set_ne e] at a b
      exact h.sl j s o a b
  ds := fun a b s s' p ha hb oa ob pa pb => by
    by_cases e1 : i = a
    · subst e1
      have l1 : i < ρ.length := by
        have := (List.getElem?_eq_some_iff.mp ha).1
        rw [List.length_set] at this; exact this
      rw [List.getElem?_set_self l1] at ha; cases ha; cases oa
    · by_cases e2 : i = b
      · subst e2
        have l1 : i < ρ.length := by
          have := (List.getElem?_eq_some_iff.mp hb).1
          rw [List.length_set] at this; exact this
        rw [List.getElem?_set_self l1] at hb; cases hb; cases ob
      · rw [List.getElem?_set_ne e1] at ha pa
        rw [List.getElem?_set_ne e2] at hb pb
        exact h.ds a b s s' p ha hb oa ob pa pb
/-- the last own thing of a slot is changed -/
def FrAt (C : VC) (R : Res) (t : T) (o : HO) (H : Hp) : Prop := match t with
  | .lst ts => ∃ vs, o = .lst vs ∧ Reps C R ts vs H
  | .dK ks ts => ∃ kvs, o = .dK kvs ∧ kvs.map (·.1) = ks.map KS.key ∧ Reps C R ts (kvs.map (·.2)) H
  | .dT ks ts => ∃ kvs, o = .dT kvs ∧ kvs.map (·.1) = ks.map (fun k => k.map KS.key) ∧ Reps C R ts (kvs.map (·.2)) H
  | _ => False
def ownOf : T → Slot
  | .lst ts => .own ts
  | .dK ks ts => .ownK ks ts
  | .dT ks ts => .ownT ks ts
  | _ => .no
theorem FrAt.gr {o : HO} (g : Gr R H H1) (h : FrAt C R t o H) : FrAt C R t o H1 := by
  cases t with
  | lst ts => obtain ⟨vs, e, r⟩ := h; exact ⟨vs, e, r.gr g⟩
  | dK ks ts => obtain ⟨kvs, e, k, r⟩ := h; exact ⟨kvs, e, k, r.gr g⟩
  | dT ks ts => obtain ⟨kvs, e, k, r⟩ := h; exact ⟨kvs, e, k, r.gr g⟩
  | _ => exact h.elim
theorem FrAt.rep {p : Addr} {o : HO} (hp : H p = some o) (hd : p ∉ R.D ∧ p ∉ R.h) (h : FrAt C R t o H) : Rep C R t (.ref p) H := by
  cases t with
  | lst ts => obtain ⟨vs, rfl, r⟩ := h; exact rep_lst hp hd r
  | dK ks ts => obtain ⟨kvs, rfl, k, r⟩ := h; exact rep_dK hp hd k r
  | dT ks ts => obtain ⟨kvs, rfl, k, r⟩ := h; exact rep_dT hp hd k r
  | _ => exact h.elim
theorem FrAt.into {q : Addr} {o : HO} (hn : H q = none) (hd : q ∉ R.D ∧ q ∉ R.h) (h : FrAt C R t o H) : FrAt C (R.add q) t o H := by
  cases t with
  | lst ts => obtain ⟨vs, e, r⟩ := h; exact ⟨vs, e, r.into hn hd⟩
  | dK ks ts => obtain ⟨kvs, e, k, r⟩ := h; exact ⟨kvs, e, k, Reps.into hn hd r⟩
  | dT ks ts => obtain ⟨kvs, e, k, r⟩ := h; exact ⟨kvs, e, k, Reps.into hn hd r⟩
  | _ => exact h.elim
theorem slot_own {p : Addr} {o : HO} (hm : p ∈ ps) (hp : H p = some o) (h : FrAt C (wth R ps) t o H) : SlotOk C R ps sx (ownOf t) (some (.ref p)) H := by
  cases t with
  | lst ts => obtain ⟨vs, rfl, r⟩ := h; exact ⟨hm, vs, hp, r⟩
  | dK ks ts => obtain ⟨kvs, rfl, k, r⟩ := h; exact ⟨hm, kvs, hp, k, r⟩
  | dT ks ts => obtain ⟨kvs, rfl, k, r⟩ := h; exact ⟨hm, kvs, hp, k, r⟩
  | _ => exact h.elim
/-- the own thing at p is changed, in whichever slot it stands -/
theorem SlotOk.upd_ne {p : Addr} {o : HO} {s : Slot} {u : Option V} (h : SlotOk C R ps sx s u H) (g : Gr (wth R ps) H (upd H p o)) (hne : isOwn s = true → u ≠ some (.ref p)) : SlotOk C R ps sx s u (upd H p o) := by
  cases s with
  | no => exact True.intro
  | sh t => cases u with
    | none => exact h.elim
    | some v => exact Rep.gr g h
  | own ts => cases u with
    | none => exact h.elim
    | some v => cases v with
      | ref q =>
        have ne : q ≠ p := fun e => hne rfl (by rw [e])
        obtain ⟨h1, vs, h2, h3⟩ := h; exact ⟨h1, vs, by rw [L2.upd_ne ne]; exact h2, h3.gr g⟩
      | _ => exact h.elim
  | self c ns ts => cases u with
    | none => exact h.elim
    | some v => cases v with
      | ref q =>
        have ne : q ≠ p := fun e => hne rfl (by rw [e])
        obtain ⟨h1, h0, dx, fs, h2, h3, h4⟩ := h; exact ⟨h1, h0, dx, fs, by rw [L2.upd_ne ne]; exact h2, h3, h4.gr g⟩
      | _ => exact h.elim
  | ownK ks ts => cases u with
    | none => exact h.elim
    | some v => cases v with
      | ref q =>
        have ne : q ≠ p := fun e => hne rfl (by rw [e])
        obtain ⟨h1, kvs, h2, h3, h4⟩ := h; exact ⟨h1, kvs, by rw [L2.upd_ne ne]; exact h2, h3, h4.gr g⟩
      | _ => exact h.elim
  | ownT ks ts => cases u with
    | none => exact h.elim
    | some v => cases v with
      | ref q =>
        have ne : q ≠ p := fun e => hne rfl (by rw [e])
        obtain ⟨h1, kvs, h2, h3, h4⟩ := h; exact ⟨h1, kvs, by rw [L2.upd_ne ne]; exact h2, h3, h4.gr g⟩
      | _ => exact h.elim
theorem gr_upd {p : Addr} {o : HO} (ow : Ow R ps) (hm : p ∈ ps) (j : (wth R ps).J H) : Gr (wth R ps) H (upd H p o) := by
  have same : ∀ x, x ∉ ps → upd H p o x = H x := fun x hx => L2.upd_ne fun e => hx (by rw [e]; exact hm)
  obtain ⟨jr, jp⟩ := wth_J.mp j
  have off := ow.off hm
  refine ⟨wth_J.mpr ⟨R.st H _ jr (fun x hx => L2.upd_ne fun e => off.1 (by rw [← e]; exact hx)) fun x hx => ?_, fun q hq => ?_⟩, fun x u e n m => ?_⟩
  · rw [L2.upd_ne fun e => off.2 (by rw [← e]; exact hx)]
    exact R.at_ H jr x (.inr hx)
  · by_cases e : q = p
    · rw [e, upd_same]; exact fun z => nomatch z
    · rw [L2.upd_ne e]; exact jp q hq
  · rw [same x fun z => m (wth_h.mpr (.inl z))]; exact e
theorem StOk.updOwn {p : Addr} {o : HO} {s : Slot} (h : StOk C R sx H0 ps ρ σ H) (hi : ρ[i]? = some s) (os : isOwn s = true) (hv : σ[i]? = some (some (.ref p))) (hm : p ∈ ps) {s' : Slot} (os' : isOwn s' = true) (hs : SlotOk C R ps sx s' (some (.ref p)) (upd H p o)) (ho : ∀ xs, o ≠ .tup xs) :
    StOk C R sx H0 ps (ρ.set i s') σ (upd H p o) ∧ Ext R ps H ps (upd H p o) := by
  have g := gr_upd (o := o) h.ow hm h.j
  have off := h.ow.off hm
  refine ⟨⟨h.ow, h.fr, fun x u e n m k => ?_, fun x hx => ?_, g.1, fun q hq xs => ?_, by rw [List.length_set]; exact h.len, fun j s2 u a b => ?_, fun a b s1 s2 q ha hb oa ob pa pb => ?_⟩, ⟨[], rfl, fun q z => absurd z List.not_mem_nil⟩, fun x u e n m k => ?_⟩
  · rw [L2.upd_ne]
    · exact h.gr x u e n m k
    · intro z
      subst z
      rcases h.fr x hm with z | z
      · rw [z] at e; cases e
      · exact k z
  · rw [L2.upd_ne fun z => off.2 (by rw [← z]; exact hx)]
    exact h.kp x hx
  · by_cases z : q = p
    · rw [z, upd_same]; exact fun y => ho xs (Option.some.inj y)
    · rw [L2.upd_ne z]; exact h.nt q hq xs
  · by_cases e : i = j
    · subst e
      have l1 : i < ρ.length := (List.getElem?_eq_some_iff.mp hi).1
      rw [List.getElem?_set_self l1] at a
      rw [hv] at b
      cases a; cases b
      exact hs
    · rw [List.getElem?_set_ne e] at a
      refine SlotOk.upd_ne (h.sl j s2 u a b) g fun o2 z => ?_
      rw [z] at b
      exact e (h.ds i j s s2 p hi a os o2 hv b)
  · have get : ∀ {k : Nat} {z : Slot}, (ρ.set i s')[k]? = some z → isOwn z = true → ∃ z', ρ[k]? = some z' ∧ isOwn z' = true := fun {k z} hz oz => by
      by_cases e : i = k
      · subst e; exact ⟨s, hi, os⟩
      · rw [List.getElem?_set_ne e] at hz; exact ⟨z, hz, oz⟩
    obtain ⟨z1, a1, o1⟩ := get ha oa
    obtain ⟨z2, a2, o2⟩ := get hb ob
    exact h.ds a b z1 z2 q a1 a2 o1 o2 pa pb
  · rw [L2.upd_ne fun z => k (by rw [z]; exact hm)]; exact e
/-- a slot gets a new thing of one's own -/
theorem StOk.setOwn {p : Addr} {o : HO} (h : StOk C R sx H0 ps ρ σ H) (hn : H p = none) (g : Gv (wth R ps) H H1) (hp : H1 p = some o) (fr : FrAt C (wth R (p :: ps)) t o H1) : StOk C R sx H0 (p :: ps) (ρ.set i (ownOf t)) (σ.set i (some (.ref p))) H1 ∧ Ext R ps H (p :: ps) H1 := by
  have off := Fk.off h.j hn
  have h1 := h.gv g
  have ow : Ow R (p :: ps) := ⟨off, h.ow⟩
  have j1 : (wth R (p :: ps)).J H1 := ⟨g.1.1, by rw [hp]; exact fun z => nomatch z⟩
  have gg : Gr (wth R (p :: ps)) H H1 := ⟨j1, fun x u e n m => g.1.2 x u e n fun z => m (List.mem_cons_of_mem _ z)⟩
  have trans : ∀ {s : Slot} {u : Option V}, SlotOk C R ps sx s u H → SlotOk C R (p :: ps) sx s u H1 := fun {s u} k => by
    have hd : ∀ q, q ∈ ps → H1 q = H q := fun q hq => g.2 q (wth_h.mpr (.inl hq))
    cases s with
    | no => exact True.intro
    | sh t => cases u with
      | none => exact k.elim
      | some v => exact Rep.gr gg (Rep.into hn off k)
    | own ts => cases u with
      | none => exact k.elim
      | some v => cases v with
        | ref q => obtain ⟨h1, vs, h2, h3⟩ := k; exact ⟨List.mem_cons_of_mem _ h1, vs, (hd q h1).trans h2, (Reps.into hn off h3).gr gg⟩
        | _ => exact k.elim
    | self c ns ts => cases u with
      | none => exact k.elim
      | some v => cases v with
        | ref q => obtain ⟨h1, h0, dx, fs, h2, h3, h4⟩ := k; exact ⟨List.mem_cons_of_mem _ h1, h0, dx, fs, (hd q h1).trans h2, h3, (Reps.into hn off h4).gr gg⟩
        | _ => exact k.elim
    | ownK ks ts => cases u with
      | none => exact k.elim
      | some v => cases v with
        | ref q => obtain ⟨h1, kvs, h2, h3, h4⟩ := k; exact ⟨List.mem_cons_of_mem _ h1, kvs, (hd q h1).trans h2, h3, (Reps.into hn off h4).gr gg⟩
        | _ => exact k.elim
    | ownT ks ts => cases u with
      | none => exact k.elim
      | some v => cases v with
        | ref q => obtain ⟨h1, kvs, h2, h3, h4⟩ := k; exact ⟨List.mem_cons_of_mem _ h1, kvs, (hd q h1).trans h2, h3, (Reps.into hn off h4).gr gg⟩
        | _ => exact k.elim
  -- no slot held p
  have nop : ∀ {j : Nat} {s : Slot}, ρ[j]? = some s → isOwn s = true → σ[j]? ≠ some (some (.ref p)) := fun {j s} a os b => by
    have := h.sl j s _ a b
    cases s with
    | own ts => obtain ⟨_, vs, e, _⟩ := this; rw [hn] at e; cases e
    | self c ns ts => obtain ⟨_, _, dx, fs, e, _⟩ := this; rw [hn] at e; cases e
    | ownK ks ts => obtain ⟨_, vs, e, _⟩ := this; rw [hn] at e; cases e
    | ownT ks ts => obtain ⟨_, vs, e, _⟩ := this; rw [hn] at e; cases e
    | _ => cases os
  refine ⟨⟨ow, fun q hq => ?_, h1.gr, h1.kp, j1, fun q hq xs => ?_, by rw [List.length_set, List.length_set, h.len], fun j s u a b => ?_, fun a b s s' q ha hb oa ob pa pb => ?_⟩, ⟨[p], rfl, fun q hq => by rw [List.mem_singleton.mp hq]; exact hn⟩, fun x u e n m k => g.1.2 x u e (by rw [wth_D]; exact n) fun z => (wth_h.mp z).elim k m⟩
  · rcases List.mem_cons.mp hq with e | e
    · rw [e]
      cases z : H0 p with
      | none => exact .inl rfl
      | some u =>
        by_cases k : sx = some p
        · exact .inr k
        · have n1 : p ∉ R.D := fun y => off.1 (by rw [wth_D]; exact y)
          have n2 : p ∉ R.h := fun y => off.2 (wth_h.mpr (.inr y))
          rw [h.gr p u z n1 n2 k] at hn; cases hn
    · exact h.fr q e
  · rcases List.mem_cons.mp hq with e | e
    · rw [e, hp]
      cases t with
      | lst ts => obtain ⟨vs, rfl, _⟩ := fr; exact fun z => nomatch z
      | dK ks ts => obtain ⟨kvs, rfl, _⟩ := fr; exact fun z => nomatch z
      | dT ks ts => obtain ⟨kvs, rfl, _⟩ := fr; exact fun z => nomatch z
      | _ => exact fr.elim
    · exact h1.nt q e xs
  · by_cases e : i = j
    · subst e
      have l1 : i < ρ.length := by
        have := (List.getElem?_eq_some_iff.mp a).1
        rw [List.length_set] at this; exact this
      have l2 : i < σ.length := by rw [← h.len]; exact l1
      rw [List.getElem?_set_self l1] at a
      rw [List.getElem?_set_self l2] at b
      cases a; cases b
      exact slot_own List.mem_cons_self hp fr
    · rw [List.getElem?_set_ne e] at a b
      exact trans (h.sl j s u a b)
  · by_cases e1 : i = a
    · by_cases e2 : i = b
      · rw [← e1, ← e2]
      · subst e1
        rw [List.getElem?_set_ne e2] at hb pb
        have l1 : i < σ.length := by
          have := (List.getElem?_eq_some_iff.mp pa).1
          rw [List.length_set] at this; exact this
        rw [List.getElem?_set_self l1] at pa
        cases pa
        exact absurd pb (nop hb ob)
    · by_cases e2 : i = b
      · subst e2
        rw [List.getElem?_set_ne e1] at ha pa
        have l1 : i < σ.length := by
          have := (List.getElem?_eq_some_iff.mp pb).1
          rw [List.length_set] at this; exact this
        rw [List.getElem?_set_self l1] at pb
        cases pb
        exact absurd pa (nop ha oa)
      · rw [List.getElem?_set_ne e1] at ha pa
        rw [List.getElem?_set_ne e2] at hb pb
        exact h.ds a b s s' q ha hb oa ob pa pb
end
end Vi

/-! Statements: rules. -/
namespace Vi
open PySem PySem.Spec PyProof.Rows L2 Fk
def vSeq (a b : MS) : MS := fun ρ => (a ρ).bind fun o => match o with
  | .nx ρ' => b ρ'
  | o => .ret o
def vNext : MS := fun ρ => .ret (.nx ρ)
def vSetS (i : Nat) (m : M T) : MS := fun ρ => (m (ρ.map seeS)).bind fun t => .ret (.nx (ρ.set i (.sh t)))
def vSetOwn (i : Nat) (m : M T) : MS := fun ρ => (m (ρ.map seeS)).bind fun t => .ret (.nx (ρ.set i (ownOf t)))
mutual
/-- made of tuples and of flat things alone -/
def plainT : T → Bool
  | .non => true | .bl _ => true | .int _ => true | .str _ => true | .ty _ => true | .cl _ => true
  | .tup ts => plainTs ts
  | .kt ts => plainTs ts
  | _ => false
def plainTs : List T → Bool
  | [] => true
  | t :: ts => plainT t && plainTs ts
end
def vSetA (i : Nat) (m : M T) : MS := fun ρ => (m (ρ.map seeA)).bind fun t => if plainT t = true then .ret (.nx (ρ.set i (.sh t))) else .fail
def vIfS (c : M Bool) (a b : MS) : MS := fun ρ => (c (ρ.map seeA)).bind fun x => if x = true then a ρ else b ρ
def vRet (m : M T) : MS := fun ρ => (m (ρ.map seeA)).bind fun t => .ret (.rt t)
def vRetN : MS := fun _ => .ret (.rt .non)
def vDrop (m : M T) : MS := fun ρ => (m (ρ.map seeA)).bind fun _ => .ret (.nx ρ)
def vBreak : MS := fun ρ => .ret (.bk ρ)
def vCont : MS := fun ρ => .ret (.ct ρ)
/-- te makes a new list or dict -/
def SF (C : VC) (E : XK) (te : TE) (m : M T) : Prop := ∀ (R : Res) (σ : L2.St) (H : Hp) (ρ : Env) (Φ : T → Prop) (Ψ : XP), SlE C R ρ σ H → XOk C E R Ψ H → (m ρ).All Φ Ψ → ∀ H1, Gr R H H1 → ∀ Q : VK, (∀ p H2 t o, H1 p = none → Gv R H1 H2 → H2 p = some o → FrAt C (R.add p) t o H2 → Φ t → Q (.ref p) H2) → te σ H1 Q
section
variable {C : VC} {E : XK} {R : Res} {sx : Option Addr} {H0 H H1 H2 : Hp} {ps ps1 ps2 : List Addr} {ρ ρ1 : EnvS} {σ σ1 : L2.St} {t : T} {v : V} {ts : List T} {vs : List V} {i : Nat}
variable {te ta tb : TE} {tt : TT} {ua ub : TS} {m : M T} {mb : M Bool} {a b : MS} {tA : TA} {ms : M (List T)}
theorem FrAt.out {p : Addr} {o u : HO} (hp : H p = some u) (hd : p ∉ R.D ∧ p ∉ R.h) (h : FrAt C (R.add p) t o H) : FrAt C R t o H := by
  cases t with
  | lst ts => obtain ⟨vs, e, r⟩ := h; exact ⟨vs, e, Reps.out hp hd r⟩
  | dK ks ts => obtain ⟨kvs, e, k, r⟩ := h; exact ⟨kvs, e, k, Reps.out hp hd r⟩
  | dT ks ts => obtain ⟨kvs, e, k, r⟩ := h; exact ⟨kvs, e, k, Reps.out hp hd r⟩
  | _ => exact h.elim
theorem SF.se (h : SF C E te m) : SE C E te m := fun R σ H ρ Φ Ψ hs hx hA => fun H1 g Q k => h R σ H ρ Φ Ψ hs hx hA H1 g Q fun p H2 t o hn g2 hp hf ht => k _ H2 g2 ⟨t, ht, (hf.out hp (Fk.off g.1 hn)).rep hp (Fk.off g.1 hn)⟩
theorem sf_lst (h : SA C E tA ms) : SF C E (tLst tA) (vLst ms) := fun R σ H ρ Φ Ψ hs hx hA => fun H1 g Q k =>
  h R σ H ρ _ Ψ hs hx (all_bind.mp hA) H1 g _ fun xs H2 g2 ⟨ts, ps, rs⟩ => by
    have l := rs.len
    by_cases hl : ts.length ≤ 1000000
    · rw [if_pos hl] at ps
      refine ⟨big (by omega), fun p hp => ?_⟩
      have g3 := Gv.new (o := .lst xs) g2.1.1 hp
      have hn : H1 p = none := by
        have o := Fk.off g2.1.1 hp
        cases z : H1 p with
        | none => rfl
        | some u => rw [g2.1.2 p u z o.1 o.2] at hp; cases hp
      exact k p _ (.lst ts) (.lst xs) hn (g2.trans g3) upd_same ⟨xs, rfl, (rs.into hp (Fk.off g2.1.1 hp)).gr (add_new g2.1.1 hp)⟩ ps
    · rw [if_neg hl] at ps; exact ps.elim
theorem sf_newK : SF C E tDNewK (fun _ => .ret (.dK [] [])) := fun R σ H ρ Φ Ψ hs hx hA => fun H1 g Q k p hp => k p _ (.dK [] []) (.dK []) hp (Gv.new g.1 hp) upd_same ⟨[], rfl, rfl, .nil⟩ hA
theorem sf_newT : SF C E tDNewT (fun _ => .ret (.dT [] [])) := fun R σ H ρ Φ Ψ hs hx hA => fun H1 g Q k p hp => k p _ (.dT [] []) (.dT []) hp (Gv.new g.1 hp) upd_same ⟨[], rfl, rfl, .nil⟩ hA
/-! ### rules -/
theorem ss_next : SS C E tNext vNext := fun R sx H0 ps ρ σ H Φ Ψ D h x hA e => e.nx ρ hA ps σ H h Ext.refl
theorem ss_seq (ha : SS C E ua a) (hb : SS C E ub b) : SS C E (tSeq ua ub) (vSeq a b) := fun R sx H0 ps ρ σ H Φ Ψ D h x hA e =>
  ha R sx H0 ps ρ σ H (fun o => ((match o with | .nx ρ' => b ρ' | o => .ret o) : Prog Out).All Φ Ψ) Ψ _ h x (all_bind.mp hA)
    ⟨fun ρ' p ps' σ' H' h' x' => hb R sx H0 ps' ρ' σ' H' Φ Ψ D h' x p (e.from_ x' h'.j), fun ρ' p => e.bk ρ' p, fun ρ' p => e.ct ρ' p, fun t p => e.rt t p⟩
theorem ss_setS (i : Nat) (h : SE C E te m) : SS C E (tAsg te (gName i)) (vSetS i m) := fun R sx H0 ps ρ σ H Φ Ψ D hs x hA e =>
  h.runS hs x (all_bind.mp hA) fun v H2 t g h2 pt rt => e.nx _ pt ps _ H2 (h2.setSh rt) (Ext.gv hs.ow g)
theorem ss_setOwn (i : Nat) (h : SF C E te m) : SS C E (tAsg te (gName i)) (vSetOwn i m) := fun R sx H0 ps ρ σ H Φ Ψ D hs x hA e =>
  h (wth R ps) σ H (ρ.map seeS) _ Ψ hs.shown (x.atS hs) (all_bind.mp hA) H (Gr.refl hs.j) _ fun p H2 t o hn g hp hf pt => by
    obtain ⟨h3, x3⟩ := hs.setOwn (i := i) hn g hp hf
    exact e.nx _ pt _ _ _ h3 x3
mutual
theorem rep_plain (hs : StOk C R sx H0 ps ρ σ H) : ∀ {t : T} {v : V}, plainT t = true → Rep C R t v H → Rep C (wth R ps) t v H
  | .non, _, _, h => by cases h; exact .non
  | .bl _, _, _, h => by cases h; exact .bl _
  | .int _, _, _, h => by cases h; exact .int _
  | .str _, _, _, h => by cases h; exact .str _
  | .ty _, _, _, h => by cases h; exact .ty _
  | .cl _, _, _, h => by cases h; exact .cl _
  | .dl, _, p, _ => nomatch p
  | .lst _, _, p, _ => nomatch p
  | .dK _ _, _, p, _ => nomatch p
  | .dT _ _, _, p, _ => nomatch p
  | .ins _ _ _, _, p, _ => nomatch p
  | .kt _, _, p, h => by cases h with | kt h1 h2 => exact .kt h1 (reps_plain hs p h2)
  | .tup _, _, p, h => by
    cases h with
    | @tup a xs ts h1 h2 =>
      refine .tup (fun H' g => ?_) (reps_plain hs p h2)
      have now : H a = some (.tup xs) := h1 H (Gr.refl hs.jr)
      have np : a ∉ ps := fun z => hs.nt a z xs now
      -- the heap H', the own things as they were
      let H'' : Hp := fun x => if x ∈ ps then H x else H' x
      have eq1 : ∀ x, x ∉ ps → H'' x = H' x := fun x hx => if_neg hx
      have eq2 : ∀ x, x ∈ ps → H'' x = H x := fun x hx => if_pos hx
      have jr := (wth_J.mp g.1).1
      have gg : Gr R H H'' := by
        refine ⟨R.st H' H'' jr (fun x hx => eq1 x fun z => (hs.ow.off z).1 hx) fun x hx => ?_, fun x o e n m => ?_⟩
        · rw [eq1 x fun z => (hs.ow.off z).2 hx]; exact R.at_ H' jr x (.inr hx)
        · by_cases z : x ∈ ps
          · rw [eq2 x z]; exact e
          · rw [eq1 x z]; exact g.2 x o e (by rw [wth_D]; exact n) fun y => (wth_h.mp y).elim z m
      have this : H'' a = some (.tup xs) := h1 H'' gg
      rw [eq1 a np] at this
      exact this
theorem reps_plain (hs : StOk C R sx H0 ps ρ σ H) : ∀ {ts : List T} {vs : List V}, plainTs ts = true → Reps C R ts vs H → Reps C (wth R ps) ts vs H
  | [], _, _, h => by cases h; exact .nil
  | _ :: _, _, p, h => by
    cases h with
    | cons h1 h2 =>
      obtain ⟨p1, p2⟩ := Bool.and_eq_true_iff.mp p
      exact .cons (rep_plain hs p1 h1) (reps_plain hs p2 h2)
end
theorem ss_setA (i : Nat) (h : SE C E te m) : SS C E (tAsg te (gName i)) (vSetA i m) := fun R sx H0 ps ρ σ H Φ Ψ D hs x hA e =>
  h.runA hs x (all_bind.mp hA) fun v H2 t g h2 pt rt => by
    by_cases p : plainT t = true
    · rw [if_pos p] at pt
      exact e.nx _ pt ps _ H2 (h2.setSh (rep_plain h2 p rt)) (Ext.gv hs.ow g)
    · rw [if_neg p] at pt
      exact pt.elim
theorem ss_if (hc : ST C E tt mb) (ha : SS C E ua a) (hb : SS C E ub b) : SS C E (tIfS tt ua ub) (vIfS mb a b) := fun R sx H0 ps ρ σ H Φ Ψ D hs x hA e => by
  refine hc R σ H (ρ.map Vi.seeA) _ Ψ hs.all (x.atA hs) (all_bind.mp hA) H (Gr.refl hs.jr) _ fun c H2 g hp => ?_
  have gw := gv_wth hs.ow hs.j g
  have h2 := hs.gv gw
  have e2 := e.from_ (Ext.gv hs.ow gw) h2.j
  cases c with
  | true => exact (if_pos rfl).mpr (ha R sx H0 ps ρ σ H2 Φ Ψ D h2 x hp e2)
  | false => exact (if_neg Bool.false_ne_true).mpr (hb R sx H0 ps ρ σ H2 Φ Ψ D h2 x hp e2)
theorem ss_ret (h : SE C E te m) : SS C E (tRet te) (vRet m) := fun R sx H0 ps ρ σ H Φ Ψ D hs x hA e =>
  h.runA hs x (all_bind.mp hA) fun v H2 t g h2 pt rt => e.rt t pt v H2 h2.jr h2.gr h2.kp rt
theorem ss_retN : SS C E tRetN vRetN := fun R sx H0 ps ρ σ H Φ Ψ D hs x hA e => e.rt .non hA .non H hs.jr hs.gr hs.kp .non
theorem ss_drop (h : SE C E te m) : SS C E (tDrop te) (vDrop m) := fun R sx H0 ps ρ σ H Φ Ψ D hs x hA e =>
  h.runA hs x (all_bind.mp hA) fun v H2 t g h2 pt rt => e.nx ρ pt ps σ H2 h2 (Ext.gv hs.ow g)
theorem ss_break : SS C E tBreak vBreak := fun R sx H0 ps ρ σ H Φ Ψ D hs x hA e => e.bk ρ hA ps σ H hs Ext.refl
theorem ss_cont : SS C E tCont vCont := fun R sx H0 ps ρ σ H Φ Ψ D hs x hA e => e.ct ρ hA ps σ H hs Ext.refl
theorem ss_never : SS C E tNever (fun _ => .fail) := fun R sx H0 ps ρ σ H Φ Ψ D hs x hA e => hA.elim
/-! ### own lists and dicts change -/
def vAppend (i : Nat) (m : M T) : MS := fun ρ => match ρ[i]? with
  | some (.own ts) => (m (ρ.map seeS)).bind fun t => if ts.length < 1000000 then .ret (.nx (ρ.set i (.own (ts ++ [t])))) else .fail
  | _ => .fail
def vExtend (i : Nat) (m : M T) : MS := fun ρ => match ρ[i]? with
  | some (.own ts) => (m (ρ.map seeS)).bind fun t => match t with
    | .lst us => if ts.length + us.length ≤ 1000000 then .ret (.nx (ρ.set i (.own (ts ++ us)))) else .fail
    | _ => .fail
  | _ => .fail
/-- the dict with this key -/
def setAll {κ : Type} [DecidableEq κ] : List κ → List T → κ → T → List T
  | k' :: ks, t' :: ts, k, t => (if k' = k then t else t') :: setAll ks ts k t
  | _, _, _, _ => []
def putT {κ : Type} [DecidableEq κ] (ks : List κ) (ts : List T) (k : κ) (t : T) : List κ × List T := if ks.any (fun x => decide (x = k)) = true then (ks, setAll ks ts k t) else (ks ++ [k], ts ++ [t])
def toKS : T → Option KS
  | .int i => some (.i i)
  | .str z => some (.s z)
  | _ => none
def toKSs : List T → Option (List KS)
  | [] => some []
  | t :: ts => (toKS t).bind fun k => (toKSs ts).map (k :: ·)
def keyT : T → Option (List KS)
  | .tup ts => toKSs ts
  | _ => none
/-- d[k] = v; the value is told first -/
def vPut (i : Nat) (mk mv : M T) : MS := fun ρ => match ρ[i]? with
  | some (.ownK ks ts) => (mv (ρ.map seeS)).bind fun v => (mk (ρ.map seeA)).bind fun k => (opt (toKS k)).bind fun q => if ks.length < 1000000 then let r := putT ks ts q v; .ret (.nx (ρ.set i (.ownK r.1 r.2))) else .fail
  | some (.ownT ks ts) => (mv (ρ.map seeS)).bind fun v => (mk (ρ.map seeA)).bind fun k => (opt (keyT k)).bind fun q => if ks.length < 1000000 then let r := putT ks ts q v; .ret (.nx (ρ.set i (.ownT r.1 r.2))) else .fail
  | _ => .fail
theorem own_at (hs : StOk C R sx H0 ps ρ σ H) {s : Slot} (hi : ρ[i]? = some s) (os : isOwn s = true) : ∃ p, σ[i]? = some (some (.ref p)) ∧ SlotOk C R ps sx s (some (.ref p)) H := by
  have lt : i < σ.length := by rw [← hs.len]; exact (List.getElem?_eq_some_iff.mp hi).1
  have := hs.sl i _ _ hi (List.getElem?_eq_getElem lt)
  cases q : σ[i] with
  | none => rw [q] at this; cases s <;> first | exact (this : False).elim | (cases os)
  | some v =>
    rw [q] at this
    cases v with
    | ref p => exact ⟨p, by rw [List.getElem?_eq_getElem lt, q], this⟩
    | _ => cases s <;> first | exact (this : False).elim | (cases os)
theorem small_line {n : Nat} (h : n < 1000000) : n < sizeLine := Nat.lt_of_lt_of_le h (by decide)
theorem ss_append (i : Nat) (h : SE C E te m) : SS C E (tDrop (tBM C.K "list" rAppend (tVar i) (tCons te tNil))) (vAppend i m) := fun R sx H0 ps ρ σ H Φ Ψ D hs x hA e => by
  unfold vAppend at hA
  cases q : ρ[i]? with
  | none => rw [q] at hA; exact hA.elim
  | some s =>
    cases s with
    | own ts =>
      rw [q] at hA
      obtain ⟨p, hv, hm, vs0, hp0, _⟩ := own_at hs q rfl
      refine ⟨.ref p, hv, .inl ⟨rfl, _, .inl (.inl hp0)⟩, ?_⟩
      refine h.runS hs x (all_bind.mp hA) fun v H2 t g h2 pt rt => ?_
      by_cases l : ts.length < 1000000
      · rw [if_pos l] at pt
        obtain ⟨p2, hv2, hm2, vs, hp, rs⟩ := own_at h2 q rfl
        have ep : p2 = p := by rw [hv] at hv2; cases hv2; rfl
        subst ep
        refine ⟨p2, vs, v, rfl, rfl, hp, small_line (by rw [rs.len]; exact l), ?_⟩
        have gu := gr_upd (o := .lst (vs ++ [v])) h2.ow hm h2.j
        obtain ⟨h3, x3⟩ := h2.updOwn q rfl hv hm (s' := .own (ts ++ [t])) rfl ⟨hm, vs ++ [v], upd_same, Rps.app (rs.gr gu) (.cons (rt.gr gu) .nil)⟩ (fun _ z => nomatch z)
        exact e.nx _ pt ps σ _ h3 ((Ext.gv hs.ow g).trans h2.j x3)
      · rw [if_neg l] at pt; exact pt.elim
    | _ => rw [q] at hA; exact hA.elim
theorem ss_extend (i : Nat) (h : SE C E te m) : SS C E (tDrop (tBM C.K "list" rExtend (tVar i) (tCons te tNil))) (vExtend i m) := fun R sx H0 ps ρ σ H Φ Ψ D hs x hA e => by
  unfold vExtend at hA
  cases q : ρ[i]? with
  | none => rw [q] at hA; exact hA.elim
  | some s =>
    cases s with
    | own ts =>
      rw [q] at hA
      obtain ⟨p, hv, hm, vs0, hp0, _⟩ := own_at hs q rfl
      refine ⟨.ref p, hv, .inl ⟨rfl, _, .inl (.inl hp0)⟩, ?_⟩
      refine h.runS hs x (all_bind.mp hA) fun v H2 t g h2 pt rt => ?_
      cases t with
      | lst us =>
        dsimp only at pt
        cases rt with
        | @lst b ws us hb hws =>
          by_cases l : ts.length + us.length ≤ 1000000
          · rw [if_pos l] at pt
            obtain ⟨p2, hv2, hm2, vs, hp, rs⟩ := own_at h2 q rfl
            have ep : p2 = p := by rw [hv] at hv2; cases hv2; rfl
            subst ep
            have l2 : ws.length = us.length := Rps.len hws
            refine ⟨p2, b, vs, ws, rfl, rfl, hp, hb H2 (Gr.refl h2.j), big (by rw [rs.len, l2]; exact l), ?_⟩
            have gu := gr_upd (o := .lst (vs ++ ws)) h2.ow hm h2.j
            have hws2 : Reps C (wth R ps) us ws H2 := hws
            obtain ⟨h3, x3⟩ := h2.updOwn q rfl hv hm (s' := .own (ts ++ us)) rfl ⟨hm, vs ++ ws, upd_same, Rps.app (rs.gr gu) (hws2.gr gu)⟩ (fun _ z => nomatch z)
            exact e.nx _ pt ps σ _ h3 ((Ext.gv hs.ow g).trans h2.j x3)
          · rw [if_neg l] at pt; exact pt.elim
      | _ => exact pt.elim
    | _ => rw [q] at hA; exact hA.elim
theorem key_inj : ∀ {a b : KS}, a.key = b.key → a = b
  | .i n, .i m, h => by cases Sum.inl.inj h; rfl
  | .s a, .s b, h => by rw [zs_inj (Sum.inr.inj h)]
  | .i n, .s b, h => nomatch h
  | .s a, .i m, h => nomatch h
theorem keys_inj : ∀ {a b : List KS}, a.map KS.key = b.map KS.key → a = b
  | [], [], _ => rfl
  | x :: xs, y :: ys, h => by
    have h1 := List.cons.inj h
    rw [key_inj h1.1, keys_inj h1.2]
  | [], _ :: _, h => nomatch h
  | _ :: _, [], h => nomatch h
theorem putT_ok {κ κ' : Type} [DecidableEq κ] [DecidableEq κ'] {f : κ' → κ} (inj : ∀ a b, f a = f b → a = b) {L : (Hp → Prop) → Prop} {dl : V → Hp → Prop} {ks : List κ'} {k : κ'} {v : V} (hv : Rp C dl L v t) : ∀ {kvs : List (κ × V)} {ts : List T}, kvs.map (·.1) = ks.map f → Rps C dl L (kvs.map (·.2)) ts →
    (putK kvs (f k) v).map (·.1) = (putT ks ts k t).1.map f ∧ Rps C dl L ((putK kvs (f k) v).map (·.2)) (putT ks ts k t).2 := by
  intro kvs ts hk hr
  have any : ∀ {kvs : List (κ × V)} {ks : List κ'}, kvs.map (·.1) = ks.map f → (kvs.any fun kv => decide (kv.1 = f k)) = ks.any fun x => decide (x = k) := by
    intro kvs
    induction kvs with
    | nil => intro ks h; cases ks with
      | nil => rfl
      | cons a l => exact nomatch h
    | cons x xs ih => intro ks h; cases ks with
      | nil => exact nomatch h
      | cons a l =>
        have h1 := List.cons.inj h
        rw [List.any_cons, List.any_cons, ih h1.2]
        have : decide (x.1 = f k) = decide (a = k) := by
          rw [show x.1 = f a from h1.1]
          by_cases e : a = k
          · rw [e]; simp
          · rw [decide_eq_false e, decide_eq_false fun z => e (inj _ _ z)]
        rw [this]
  unfold putK putT
  rw [any hk]
  by_cases c : (ks.any fun x => decide (x = k)) = true
  · rw [if_pos c, if_pos c]
    constructor
    · rw [List.map_map]
      have : ((fun x : κ × V => x.1) ∘ fun kv : κ × V => if kv.1 = f k then (kv.1, v) else kv) = fun x => x.1 := by
        funext x
        show (if x.1 = f k then (x.1, v) else x).1 = x.1
        by_cases e : x.1 = f k
        · rw [if_pos e]
        · rw [if_neg e]
      rw [this]; exact hk
    · clear any c
      revert ks ts
      induction kvs with
      | nil => intro ks ts h r; cases r; cases ks with
        | nil => exact .nil
        | cons a l => exact nomatch h
      | cons x xs ih =>
        intro ks ts h r
        cases ks with
        | nil => exact nomatch h
        | cons a l =>
          have h1 := List.cons.inj h
          cases r with
          | cons r1 r2 =>
            refine .cons ?_ (ih h1.2 r2)
            show Rp C dl L (if x.1 = f k then (x.1, v) else x).2 _
            have h1' : x.1 = f a := h1.1
            by_cases e : a = k
            · rw [if_pos e, if_pos (by rw [h1', e])]; exact hv
            · rw [if_neg e, if_neg (by rw [h1']; exact fun z => e (inj _ _ z))]; exact r1
  · rw [if_neg c, if_neg c]
    constructor
    · rw [List.map_append, List.map_append, hk]; rfl
    · rw [List.map_append]; exact Rps.app hr (.cons hv .nil)
theorem toKS_rep {k : T} {q : KS} {y : V} {H : Hp} (e : toKS k = some q) (h : Rep C R k y H) : y = kV q.key := by
  cases k with
  | int i => cases e; cases h; rfl
  | str z => cases e; cases h; rfl
  | _ => exact nomatch e
theorem toKSs_rep {H : Hp} : ∀ {ts : List T} {q : List KS} {ys : List V}, toKSs ts = some q → Reps C R ts ys H → ys = (q.map KS.key).map kV
  | [], q, _, e, h => by cases e; cases h; rfl
  | t :: ts, q, _, e, h => by
    cases h with
    | cons h1 h2 =>
      obtain ⟨a, e1, e2⟩ := Option.bind_eq_some_iff.mp (show (toKS t).bind (fun k => (toKSs ts).map (k :: ·)) = some q from e)
      obtain ⟨b, e3, e4⟩ := Option.map_eq_some_iff.mp e2
      subst e4
      rw [toKS_rep e1 h1, toKSs_rep e3 h2]; rfl
theorem ss_put (i : Nat) {tk tv : TE} {mk mv : M T} (hk : SE C E tk mk) (hv : SE C E tv mv) : SS C E (sDPut (tVar i) tk tv) (vPut i mk mv) := fun R sx H0 ps ρ σ H Φ Ψ D hs x hA e => by
  unfold vPut at hA
  cases q : ρ[i]? with
  | none => rw [q] at hA; exact hA.elim
  | some s =>
    cases s with
    | ownK ks ts =>
      rw [q] at hA
      refine hv.runS hs x (all_bind.mp hA) fun v H2 t g h2 pt rt => ?_
      obtain ⟨p, hv, hm, _⟩ := own_at h2 q rfl
      refine ⟨.ref p, hv, ?_⟩
      refine hk.runA h2 x (all_bind.mp pt) fun y H3 k g3 h3 pk rk => ?_
      obtain ⟨w, ew, pw⟩ := all_opt.mp (all_bind.mp pk)
      by_cases l : ks.length < 1000000
      · rw [if_pos l] at pw
        obtain ⟨p2, hv2, hm2, kvs, hp, hks, rs⟩ := own_at h3 q rfl
        have ep : p2 = p := by rw [hv] at hv2; cases hv2; rfl
        subst ep
        have lk : kvs.length = ks.length := by have := congrArg List.length hks; simpa using this
        refine ⟨p2, _, rfl, .inl ⟨kvs, w.key, hp, toKS_rep ew rk, small_line (by omega), rfl⟩, ?_⟩
        have gu := gr_upd (o := .dK (putK kvs w.key v)) h3.ow hm h3.j
        have r2 := putT_ok (f := KS.key) (fun a b => key_inj) (ks := ks) (k := w) ((rt.gr g3.1).gr gu) hks (rs.gr gu)
        obtain ⟨h4, x4⟩ := h3.updOwn q rfl hv hm (s' := .ownK (putT ks ts w t).1 (putT ks ts w t).2) rfl ⟨hm, _, upd_same, r2.1, r2.2⟩ (fun _ z => nomatch z)
        exact e.nx _ pw ps σ _ h4 ((Ext.gv hs.ow (g.trans g3)).trans h3.j x4)
      · rw [if_neg l] at pw; exact pw.elim
    | ownT ks ts =>
      rw [q] at hA
      refine hv.runS hs x (all_bind.mp hA) fun v H2 t g h2 pt rt => ?_
      obtain ⟨p, hv, hm, _⟩ := own_at h2 q rfl
      refine ⟨.ref p, hv, ?_⟩
      refine hk.runA h2 x (all_bind.mp pt) fun y H3 k g3 h3 pk rk => ?_
      obtain ⟨w, ew, pw⟩ := all_opt.mp (all_bind.mp pk)
      by_cases l : ks.length < 1000000
      · rw [if_pos l] at pw
        obtain ⟨p2, hv2, hm2, kvs, hp, hks, rs⟩ := own_at h3 q rfl
        have ep : p2 = p := by rw [hv] at hv2; cases hv2; rfl
        subst ep
        have lk : kvs.length = ks.length := by have := congrArg List.length hks; simpa using this
        cases k with
        | tup us =>
          cases rk with
          | @tup b ys us hb hys =>
            have eb : H3 b = some (.tup ((w.map KS.key).map kV)) := by
              have := hb H3 (Gr.refl h3.jr)
              rw [toKSs_rep ew hys] at this
              exact this
            refine ⟨p2, _, rfl, .inr ⟨kvs, w.map KS.key, b, hp, rfl, eb, small_line (by omega), rfl⟩, ?_⟩
            have gu := gr_upd (o := .dT (putK kvs (w.map KS.key) v)) h3.ow hm h3.j
            have r2 := putT_ok (f := fun x : List KS => x.map KS.key) (fun a b => keys_inj) (ks := ks) (k := w) ((rt.gr g3.1).gr gu) hks (rs.gr gu)
            obtain ⟨h4, x4⟩ := h3.updOwn q rfl hv hm (s' := .ownT (putT ks ts w t).1 (putT ks ts w t).2) rfl ⟨hm, _, upd_same, r2.1, r2.2⟩ (fun _ z => nomatch z)
            exact e.nx _ pw ps σ _ h4 ((Ext.gv hs.ow (g.trans g3)).trans h3.j x4)
        | _ => exact nomatch ew
      · rw [if_neg l] at pw; exact pw.elim
    | _ => rw [q] at hA; exact hA.elim
end
end Vi

/-! Loops and comprehensions. -/
namespace Vi
open PySem PySem.Spec PyProof.Rows L2 Fk
/-- what a turn gives -/
def Yld (C : VC) (R : Res) (H2 : Hp) (ts : List T) (Y : Nat → Hp → V → Hp → Prop) : Prop := ∀ (R' : Res) (H H' : Hp) (i : Nat) (x : V) (t : T), ts[i]? = some t → R'.J H → (∀ (t : T) (v : V), Rep C R t v H2 → Rep C R' t v H) → Y i H x H' → Gv R' H H' ∧ Rep C R' t x H'
def SI (C : VC) (E : XK) (wi : TI) (m : M (List T)) : Prop := ∀ (R : Res) (σ : L2.St) (H : Hp) (ρ : Env) (Φ : List T → Prop) (Ψ : XP), SlE C R ρ σ H → XOk C E R Ψ H → (m ρ).All Φ Ψ →
  ∀ H1, Gr R H H1 → ∀ Z : It → Hp → Prop, (∀ J H2 G Y ts, Φ ts → Gv R H1 H2 → Walk J ts.length G Y → Al R G H2 → Yld C R H2 ts Y → Z J H2) → wi σ H1 Z
/-- a target in a block of its own -/
def SGE (C : VC) (g : TG) (vs : List Nat) (f : T → Env → Option Env) : Prop := ∀ (R : Res) (σ : L2.St) (ρ ρ' : Env) (H : Hp) (x : V) (t : T), R.J H → SlE C R (ρ : Env) σ H → Rep C R t x H → f t ρ = some ρ' → ∀ Q : L2.St → Hp → Prop, (∀ σ', SlE C R ρ' σ' H → (∀ i, i ∉ vs → σ'[i]? = σ[i]?) → σ'.length = σ.length → Q σ' H) → g x σ H Q
def wipeE (ρ : Env) : List Nat → Env
  | [] => ρ
  | v :: vs => (wipeE ρ vs).set v none
def vSeqI (m : M T) : M (List T) := fun ρ => (m ρ).bind fun t => match t with
  | .lst ts => .ret ts
  | .tup ts => .ret ts
  | .kt ts => .ret ts
  | .str z => .ret (z.map fun c => .str [c])
  | _ => .fail
def vRng1 (m : M (List T)) : M (List T) := fun ρ => (m ρ).bind fun ts => match ts with
  | [.int n] => if 0 ≤ n ∧ n ≤ 1000000 then .ret ((List.range n.toNat).map fun i => .int (i : Nat)) else .fail
  | _ => .fail
def vRng2 (m : M (List T)) : M (List T) := fun ρ => (m ρ).bind fun ts => match ts with
  | [.int a, .int n] => if 0 ≤ a ∧ 0 ≤ n ∧ a ≤ 1000000 ∧ n ≤ 1000000 then .ret ((List.range (n - a).toNat).map fun i => .int (a + (i : Nat))) else .fail
  | _ => .fail
/-- pairs of items -/
def zipT : List T → List T → List T
  | x :: xs, y :: ys => .tup [x, y] :: zipT xs ys
  | _, _ => []
def enumT : Nat → List T → List T
  | _, [] => []
  | n, x :: xs => .tup [.int (n : Nat), x] :: enumT (n + 1) xs
def vEnum (m : M (List T)) : M (List T) := fun ρ => (m ρ).bind fun ts => match ts with
  | [.lst ts] => .ret (enumT 0 ts)
  | _ => .fail
def vZip (m : M (List T)) : M (List T) := fun ρ => (m ρ).bind fun ts => match ts with
  | [.lst xs, .lst ys] => .ret (zipT xs ys)
  | _ => .fail
def vRev (m : M (List T)) : M (List T) := fun ρ => (m ρ).bind fun ts => match ts with
  | [.lst xs] => .ret xs.reverse
  | _ => .fail
section
variable {C : VC} {E : XK} {R R' : Res} {sx : Option Addr} {H0 H H1 H2 H' : Hp} {ps ps1 ps2 : List Addr} {ρ ρ1 : EnvS} {σ σ1 : L2.St} {t : T} {v : V} {ts us : List T} {vs ws : List V} {i : Nat}
variable {te tl ta tb : TE} {tt : TT} {ua ub : TS} {m : M T} {mb : M Bool} {a b : MS} {tA : TA} {ms : M (List T)}
theorem yld_at {xs : List V} (h : Reps C R ts xs H2) : Yld C R H2 ts (YAt xs) := fun R' H H' i x t e j tr y => by
  obtain ⟨rfl, y2⟩ := y
  obtain ⟨v, hv, hr⟩ := Rps.get h e
  rw [y2] at hv
  cases hv
  exact ⟨Gv.refl j, tr t x hr⟩
theorem si_any (h : SE C E tl m) : SI C E (iAny C.K tl) (vSeqI m) := fun R σ H ρ Φ Ψ hs hx hA H1 g Z k =>
  h R σ H ρ _ Ψ hs hx (all_bind.mp hA) H1 g _ fun x H2 g2 ⟨t, pt, rt⟩ => by
    cases t with
    | lst ts =>
      cases rt with
      | @lst a xs ts ha hr =>
        have hr' : Reps C R ts xs H2 := hr
        have la : SqL C.K H2 a xs := .inl (.inl (ha H2 (Gr.refl g2.1.1)))
        refine .inl ⟨a, xs, rfl, la, k _ H2 (fun H => SqL C.K H a xs) (YAt xs) ts pt g2 ?_ (fun H' g' => .inl (.inl (ha H' g'))) (yld_at hr')⟩
        rw [← Rps.len hr]
        exact walk_list
    | tup ts =>
      cases rt with
      | @tup a xs ts ha hr =>
        have hr' : Reps C R ts xs H2 := hr
        have la : SqT C.K H2 a xs := .inl (.inl (ha H2 (Gr.refl g2.1.1)))
        refine .inr (.inl ⟨a, xs, rfl, la, k _ H2 (fun H => SqT C.K H a xs) (YAt xs) ts pt g2 ?_ (fun H' g' => .inl (.inl (ha H' g'))) (yld_at hr')⟩)
        rw [← Rps.len hr]
        exact walk_tup
    | kt ts =>
      cases rt with
      | @kt a xs ts ha hr =>
        have hr' : Reps C R ts xs H2 := hr
        refine .inr (.inl ⟨a, xs, rfl, ha H2, k _ H2 (fun H => SqT C.K H a xs) (YAt xs) ts pt g2 ?_ (fun H' g' => ha H') (yld_at hr')⟩)
        rw [← Rps.len hr]
        exact walk_tup
    | str z =>
      cases rt
      refine .inr (.inr ⟨zs z, rfl, k _ H2 (fun _ => True) (fun i H v H' => H' = H ∧ ∃ c, (zs z).cps[i]? = some c ∧ v = .str ⟨#[c]⟩) _ pt g2 ?_ (fun H' g' => True.intro) ?_⟩)
      · rw [List.length_map]
        have := walk_str (z := zs z)
        have e : (zs z).cps.size = z.length := by simp [zs]
        rw [e] at this
        exact this
      · intro R' H H' i x t e j tr y
        obtain ⟨rfl, c, hc, rfl⟩ := y
        rw [List.getElem?_map] at e
        obtain ⟨c', hc', rfl⟩ := Option.map_eq_some_iff.mp e
        have : c' = c := by
          have h2 : z[i]? = some c := by simpa [zs] using hc
          rw [h2] at hc'; cases hc'; rfl
        subst this
        exact ⟨Gv.refl j, .str [c']⟩
    | _ => exact pt.elim
theorem si_rng1 (h : SA C E tA ms) : SI C E (iRng1 tA) (vRng1 ms) := fun R σ H ρ Φ Ψ hs hx hA H1 g Z k =>
  h R σ H ρ _ Ψ hs hx (all_bind.mp hA) H1 g _ fun xs H2 g2 ⟨ts, pt, rt⟩ => by
    match ts, pt, rt with
    | [.int n], pt, rt =>
      cases rt with
      | cons r1 r2 =>
        cases r2; cases r1
        dsimp only at pt
        by_cases c : 0 ≤ n ∧ n ≤ 1000000
        · rw [if_pos c] at pt
          refine ⟨n, rfl, by omega, by omega, k _ H2 (fun _ => True) (YFn fun i => .int (0 + (i : Nat))) _ pt g2 ?_ (fun _ _ => True.intro) ?_⟩
          · rw [List.length_map, List.length_range]
            exact walk_range
          · intro R' H H' i x t e j tr y
            obtain ⟨rfl, rfl⟩ := y
            rw [List.getElem?_map] at e
            obtain ⟨c', hc', rfl⟩ := Option.map_eq_some_iff.mp e
            have : c' = i := by
              have := List.getElem?_eq_some_iff.mp hc'
              obtain ⟨l, q⟩ := this
              rw [← q, List.getElem_range]
            subst this
            refine ⟨Gv.refl j, ?_⟩
            show Rep C R' _ (V.int (0 + ((c' : Nat) : Int))) H'
            rw [Int.zero_add]
            exact .int _
        · rw [if_neg c] at pt; exact pt.elim
    | [], pt, _ => exact pt.elim
    | .int _ :: _ :: _, pt, _ => exact pt.elim
    | .non :: _, pt, _ => exact pt.elim
    | .bl _ :: _, pt, _ => exact pt.elim
    | .str _ :: _, pt, _ => exact pt.elim
    | .lst _ :: _, pt, _ => exact pt.elim
    | .tup _ :: _, pt, _ => exact pt.elim
    | .kt _ :: _, pt, _ => exact pt.elim
    | .dK _ _ :: _, pt, _ => exact pt.elim
    | .dT _ _ :: _, pt, _ => exact pt.elim
    | .ins _ _ _ :: _, pt, _ => exact pt.elim
    | .ty _ :: _, pt, _ => exact pt.elim
    | .cl _ :: _, pt, _ => exact pt.elim
    | .dl :: _, pt, _ => exact pt.elim
theorem zipT_get : ∀ {xs ys : List T} {i : Nat} {t : T}, (zipT xs ys)[i]? = some t → ∃ x y, xs[i]? = some x ∧ ys[i]? = some y ∧ t = .tup [x, y]
  | x :: xs, y :: ys, 0, t, e => by cases e; exact ⟨x, y, rfl, rfl, rfl⟩
  | x :: xs, y :: ys, i + 1, t, e => by
    obtain ⟨a, b, h1, h2, h3⟩ := zipT_get (xs := xs) (ys := ys) (i := i) (by simpa [zipT] using e)
    exact ⟨a, b, by simpa using h1, by simpa using h2, h3⟩
  | [], ys, i, t, e => by simp [zipT] at e
  | x :: xs, [], i, t, e => by simp [zipT] at e
theorem zipT_len : ∀ {xs ys : List T}, (zipT xs ys).length = min xs.length ys.length
  | x :: xs, y :: ys => by simp only [zipT, List.length_cons, zipT_len (xs := xs) (ys := ys)]; omega
  | [], ys => by simp [zipT]
  | x :: xs, [] => by simp [zipT]
theorem enumT_get : ∀ {xs : List T} {n i : Nat} {t : T}, (enumT n xs)[i]? = some t → ∃ x, xs[i]? = some x ∧ t = .tup [.int ((n + i : Nat) : Int), x]
  | x :: xs, n, 0, t, e => by cases e; exact ⟨x, rfl, rfl⟩
  | x :: xs, n, i + 1, t, e => by
    obtain ⟨a, h1, h2⟩ := enumT_get (xs := xs) (n := n + 1) (i := i) (by simpa [enumT] using e)
    exact ⟨a, by simpa using h1, by rw [h2]; congr 4; omega⟩
  | [], n, i, t, e => by simp [enumT] at e
theorem enumT_len : ∀ {xs : List T} {n : Nat}, (enumT n xs).length = xs.length
  | [], n => rfl
  | x :: xs, n => by simp only [enumT, List.length_cons, enumT_len (xs := xs)]
/-- a new pair -/
theorem yld_pair {f g : Nat → Option V} (h : ∀ i t x y, ts[i]? = some t → f i = some x → g i = some y → ∃ a b, t = .tup [a, b] ∧ Rep C R a x H2 ∧ Rep C R b y H2) : Yld C R H2 ts (YPair f g) := fun R' H H' i x t e j tr y => by
  obtain ⟨T0, u, w, rfl, hn, rfl, hu, hw⟩ := y
  obtain ⟨a, b, rfl, ra, rb⟩ := h i t u w e hu hw
  have gn := Gv.new (o := .tup [u, w]) j hn
  exact ⟨gn, rep_tup upd_same (Fk.off j hn) (.cons ((tr a u ra).gr gn.1) (.cons ((tr b w rb).gr gn.1) .nil))⟩
theorem si_enum (h : SA C E tA ms) : SI C E (iEnum C.K tA) (vEnum ms) := fun R σ H ρ Φ Ψ hs hx hA H1 g Z k =>
  h R σ H ρ _ Ψ hs hx (all_bind.mp hA) H1 g _ fun xs H2 g2 ⟨ts, pt, rt⟩ => by
    unfold vEnum at *
    split at pt
    · rename_i us
      cases rt with
      | cons r1 r2 =>
        cases r2
        cases r1 with
        | @lst a ys _ ha hr =>
          refine ⟨a, ys, rfl, .inl (.inl (ha H2 (Gr.refl g2.1.1))), k _ H2 (fun H => SqL C.K H a ys) (YPair (fun i => some (.int (i : Nat))) (fun i => ys[i]?)) _ pt g2 ?_ (fun H' g' => .inl (.inl (ha H' g'))) ?_⟩
          · rw [enumT_len, ← Rps.len hr]
            exact walk_enum
          · refine yld_pair fun i t x y e hx hy => ?_
            obtain ⟨u, hu, rfl⟩ := enumT_get e
            cases hx
            obtain ⟨v, hv, rv⟩ := Rps.get hr hu
            rw [hy] at hv; cases hv
            rw [Nat.zero_add]
            exact ⟨_, _, rfl, .int _, rv⟩
    · exact pt.elim
theorem si_zip (h : SA C E tA ms) : SI C E (iZip C.K tA) (vZip ms) := fun R σ H ρ Φ Ψ hs hx hA H1 g Z k =>
  h R σ H ρ _ Ψ hs hx (all_bind.mp hA) H1 g _ fun xs H2 g2 ⟨ts, pt, rt⟩ => by
    unfold vZip at *
    split at pt
    · rename_i us ws
      cases rt with
      | cons r1 r2 =>
        cases r2 with
        | cons r2 r3 =>
          cases r3
          cases r1 with
          | @lst a ys _ ha hr =>
            cases r2 with
            | @lst b zs' _ hb hr2 =>
              refine ⟨a, b, ys, zs', rfl, .inl (.inl (ha H2 (Gr.refl g2.1.1))), .inl (.inl (hb H2 (Gr.refl g2.1.1))), k _ H2 (fun H => SqL C.K H a ys ∧ SqL C.K H b zs') (YPair (fun i => ys[i]?) (fun i => zs'[i]?)) _ pt g2 (walk_zip (by rw [zipT_len, ← Rps.len hr, ← Rps.len hr2])) (fun H' g' => ⟨.inl (.inl (ha H' g')), .inl (.inl (hb H' g'))⟩) ?_⟩
              refine yld_pair fun i t x y e hx hy => ?_
              obtain ⟨u, w, hu, hw, rfl⟩ := zipT_get e
              obtain ⟨v, hv, rv⟩ := Rps.get hr hu
              obtain ⟨v2, hv2, rv2⟩ := Rps.get hr2 hw
              rw [hx] at hv; cases hv
              rw [hy] at hv2; cases hv2
              exact ⟨_, _, rfl, rv, rv2⟩
    · exact pt.elim
theorem si_rev (h : SA C E tA ms) : SI C E (iRev C.K tA) (vRev ms) := fun R σ H ρ Φ Ψ hs hx hA H1 g Z k =>
  h R σ H ρ _ Ψ hs hx (all_bind.mp hA) H1 g _ fun xs H2 g2 ⟨ts, pt, rt⟩ => by
    unfold vRev at *
    split at pt
    · rename_i us
      cases rt with
      | cons r1 r2 =>
        cases r2
        cases r1 with
        | @lst a ys _ ha hr =>
          have l := Rps.len hr
          refine ⟨a, ys, rfl, .inl (.inl (ha H2 (Gr.refl g2.1.1))), k _ H2 (fun H => SqL C.K H a ys) (fun i H x H' => H' = H ∧ ys[ys.length - 1 - i]? = some x) _ pt g2 ?_ (fun H' g' => .inl (.inl (ha H' g'))) ?_⟩
          · rw [List.length_reverse, ← l]
            exact walk_rev
          · intro R' H H' i x t e j tr y
            obtain ⟨rfl, y2⟩ := y
            have hi : i < us.length := by
              have := (List.getElem?_eq_some_iff.mp e).1
              simpa using this
            rw [List.getElem?_reverse hi] at e
            obtain ⟨v, hv, rv⟩ := Rps.get hr e
            rw [l, hv] at y2
            cases y2
            exact ⟨Gv.refl j, tr t x rv⟩
    · exact pt.elim
/-! ### for, while -/
def SG (C : VC) (g : TG) (f : T → EnvS → Option EnvS) : Prop := ∀ (R : Res) (sx : Option Addr) (H0 : Hp) (ps : List Addr) (ρ ρ' : EnvS) (σ : L2.St) (H : Hp) (x : V) (t : T), StOk C R sx H0 ps ρ σ H → Rep C (wth R ps) t x H → f t ρ = some ρ' → ∀ Q : L2.St → Hp → Prop, (∀ σ', StOk C R sx H0 ps ρ' σ' H → Q σ' H) → g x σ H Q
def SGs (C : VC) (g : TGs) (f : List T → EnvS → Option EnvS) : Prop := ∀ (R : Res) (sx : Option Addr) (H0 : Hp) (ps : List Addr) (ρ ρ' : EnvS) (σ : L2.St) (H : Hp) (xs : List V) (ts : List T), StOk C R sx H0 ps ρ σ H → Reps C (wth R ps) ts xs H → f ts ρ = some ρ' → ∀ Q : L2.St → Hp → Prop, (∀ σ', StOk C R sx H0 ps ρ' σ' H → Q σ' H) → g xs σ H Q
def gN (i : Nat) : T → EnvS → Option EnvS := fun t ρ => some (ρ.set i (.sh t))
def gsNil : List T → EnvS → Option EnvS := fun ts ρ => match ts with
  | [] => some ρ
  | _ => none
def gsCons (f : T → EnvS → Option EnvS) (fs : List T → EnvS → Option EnvS) : List T → EnvS → Option EnvS := fun ts ρ => match ts with
  | t :: ts => (f t ρ).bind (fs ts)
  | _ => none
def gT (n : Nat) (fs : List T → EnvS → Option EnvS) : T → EnvS → Option EnvS := fun t ρ => match t with
  | .tup ts => if ts.length = n then fs ts ρ else none
  | .kt ts => if ts.length = n then fs ts ρ else none
  | _ => none
theorem sg_name (i : Nat) : SG C (gName i) (gN i) := fun R sx H0 ps ρ ρ' σ H x t h r e Q k => by
  cases e
  exact k _ (h.setSh r)
theorem sgs_nil : SGs C gNil gsNil := fun R sx H0 ps ρ ρ' σ H xs ts h r e Q k => by
  cases ts with
  | nil => cases e; cases r; exact ⟨rfl, k σ h⟩
  | cons a l => exact nomatch e
theorem sgs_cons {g : TG} {gs : TGs} {f : T → EnvS → Option EnvS} {fs : List T → EnvS → Option EnvS} (h1 : SG C g f) (h2 : SGs C gs fs) : SGs C (gCons g gs) (gsCons f fs) := fun R sx H0 ps ρ ρ' σ H xs ts h r e Q k => by
  cases ts with
  | nil => exact nomatch e
  | cons a l =>
    cases r with
    | cons r1 r2 =>
      obtain ⟨ρ1, e1, e2⟩ := Option.bind_eq_some_iff.mp (show (f a ρ).bind (fs l) = some ρ' from e)
      exact ⟨_, _, rfl, h1 R sx H0 ps ρ ρ1 σ H _ a h r1 e1 _ fun σ1 h3 => h2 R sx H0 ps ρ1 ρ' σ1 H _ l h3 r2 e2 Q k⟩
theorem sg_tup {n : Nat} {gs : TGs} {fs : List T → EnvS → Option EnvS} (h2 : SGs C gs fs) : SG C (gTup C.K n gs) (gT n fs) := fun R sx H0 ps ρ ρ' σ H x t h r e Q k => by
  cases t with
  | tup ts =>
    cases r with
    | @tup a xs _ ha hr =>
      by_cases l : ts.length = n
      · have e' : fs ts ρ = some ρ' := by rw [← e]; unfold gT; simp [l]
        exact ⟨a, xs, rfl, .inl (.inl (ha H (Gr.refl h.j))), by rw [Rps.len hr]; exact l, h2 R sx H0 ps ρ ρ' σ H xs ts h hr e' Q k⟩
      · simp [gT, l] at e
  | kt ts =>
    cases r with
    | @kt a xs _ ha hr =>
      by_cases l : ts.length = n
      · have e' : fs ts ρ = some ρ' := by rw [← e]; unfold gT; simp [l]
        exact ⟨a, xs, rfl, ha H, by rw [Rps.len hr]; exact l, h2 R sx H0 ps ρ ρ' σ H xs ts h hr e' Q k⟩
      · simp [gT, l] at e
  | _ => exact nomatch e
def vLoop (f : T → EnvS → Option EnvS) (b : MS) : List T → MS
  | [], ρ => .ret (.nx ρ)
  | t :: ts, ρ => match f t ρ with
    | none => .fail
    | some ρ1 => (b ρ1).bind fun o => match o with
      | .nx ρ2 => vLoop f b ts ρ2
      | .ct ρ2 => vLoop f b ts ρ2
      | .bk ρ2 => .ret (.nx ρ2)
      | .rt t => .ret (.rt t)
def vFor (ms : M (List T)) (f : T → EnvS → Option EnvS) (b : MS) : MS := fun ρ => (ms (ρ.map seeS)).bind fun ts => vLoop f b ts ρ
theorem ss_for {wi : TI} {g : TG} {f : T → EnvS → Option EnvS} (hi : SI C E wi ms) (hg : SG C g f) (hb : SS C E ub b) : SS C E (tFor wi g ub) (vFor ms f b) := fun R sx H0 ps ρ σ H Φ Ψ D hs x hA e => by
  refine hi (wth R ps) σ H (ρ.map Vi.seeS) _ Ψ hs.shown (x.atS hs) (all_bind.mp hA) H (Gr.refl hs.j) _ fun J H2 G Y ts pt g2 W hG yl => ?_
  have h2 := hs.gv g2
  have e2 := e.from_ (Ext.gv hs.ow g2) h2.j
  have gr0 : ∀ {ps' : List Addr} {H' : Hp}, (wth R ps').J H' → Ext R ps H2 ps' H' → Gr (wth R ps) H2 H' := fun {ps' H'} j a => by
    obtain ⟨⟨qs, e1, _⟩, a2⟩ := a
    obtain ⟨jr, jp⟩ := wth_J.mp j
    exact ⟨wth_J.mpr ⟨jr, fun p hp => jp p (by rw [e1]; exact List.mem_append_right _ hp)⟩, fun y u q n m => a2 y u q (by rw [wth_D] at n; exact n) (fun z => m (wth_h.mpr (.inr z))) fun z => m (wth_h.mpr (.inl z))⟩
  refine for_it W (fun i σ' H' => ∃ ps' ρ', StOk C R sx H0 ps' ρ' σ' H' ∧ Ext R ps H2 ps' H' ∧ (vLoop f b (ts.drop i) ρ').All Φ Ψ) ⟨ps, ρ, h2, Ext.refl, pt⟩ (fun i σ' H' _ ⟨ps', ρ', s', x', _⟩ => hG H' (gr0 s'.j x')) (fun i xv σ' H' H3 hi ⟨ps', ρ', s', x', al⟩ y => ?_) fun σ' H' ⟨ps', ρ', s', x', al⟩ => ?_
  · have ht : ts[i]? = some ts[i] := List.getElem?_eq_getElem hi
    obtain ⟨g3, r3⟩ := yl (wth R ps') H' H3 i xv ts[i] ht s'.j (fun t v r => x'.rep s'.ow s'.j r) y
    have s3 := s'.gv g3
    have x3 := x'.trans s'.j (Ext.gv s'.ow g3)
    rw [List.drop_eq_getElem_cons hi] at al
    cases hf : f ts[i] ρ' with
    | none => simp only [vLoop, hf] at al; exact al.elim
    | some ρ1 =>
      simp only [vLoop, hf] at al
      refine hg R sx H0 ps' ρ' ρ1 σ' H3 xv ts[i] s3 r3 hf _ fun σ4 s4 => ?_
      refine hb R sx H0 ps' ρ1 σ4 H3 _ Ψ _ s4 x (all_bind.mp al) ⟨fun ρ2 p2 ps2 σ2 Hq sq xq => ⟨ps2, ρ2, sq, x3.trans s3.j xq, p2⟩, fun ρ2 p2 ps2 σ2 Hq sq xq => e2.nx ρ2 p2 ps2 σ2 Hq sq (x3.trans s3.j xq), fun ρ2 p2 ps2 σ2 Hq sq xq => ⟨ps2, ρ2, sq, x3.trans s3.j xq, p2⟩, fun t p2 => e2.rt t p2⟩
  · rw [List.drop_length] at al
    exact e2.nx ρ' al ps' σ' H' s' x'
def vWh (c : M Bool) (b : MS) : Nat → MS
  | 0, _ => .fail
  | n + 1, ρ => (c (ρ.map seeA)).bind fun x => if x = true then (b ρ).bind fun o => match o with
      | .nx ρ2 => vWh c b n ρ2
      | .ct ρ2 => vWh c b n ρ2
      | .bk ρ2 => .ret (.nx ρ2)
      | .rt t => .ret (.rt t)
    else .ret (.nx ρ)
theorem ss_while (n : Nat) (hc : ST C E tt mb) (hb : SS C E ub b) : SS C E (tWhile tt ub) (vWh mb b n) := fun R sx H0 ps ρ σ H Φ Ψ D hs x hA e => by
  refine ⟨fun k σ' H' => ∃ ps' ρ', StOk C R sx H0 ps' ρ' σ' H' ∧ Ext R ps H ps' H' ∧ (vWh mb b k ρ').All Φ Ψ, ⟨n, ps, ρ, hs, Ext.refl, hA⟩, ?_⟩
  rintro k σ' H' ⟨ps', ρ', s', x', al⟩
  cases k with
  | zero => exact al.elim
  | succ k =>
    simp only [vWh] at al
    refine hc R σ' H' (ρ'.map Vi.seeA) _ Ψ s'.all (x.atA s') (all_bind.mp al) H' (Gr.refl s'.jr) _ fun c H2 g hp => ?_
    have gw := gv_wth s'.ow s'.j g
    have s2 := s'.gv gw
    have x2 := x'.trans s'.j (Ext.gv s'.ow gw)
    cases c with
    | false =>
      refine (if_neg Bool.false_ne_true).mpr ?_
      exact e.nx ρ' hp ps' σ' H2 s2 x2
    | true =>
      refine (if_pos rfl).mpr ?_
      have hp := all_bind.mp (show ((b ρ').bind _).All Φ Ψ from hp)
      refine ⟨fun σ3 H3 => ∃ ps3 ρ3, StOk C R sx H0 ps3 ρ3 σ3 H3 ∧ Ext R ps H ps3 H3 ∧ (vWh mb b k ρ3).All Φ Ψ, fun σ3 H3 h => ⟨k, Nat.lt_succ_self k, h⟩, ?_⟩
      exact hb R sx H0 ps' ρ' σ' H2 _ Ψ _ s2 x hp ⟨fun ρ2 p2 ps2 σ2 Hq sq xq => ⟨ps2, ρ2, sq, x2.trans s2.j xq, p2⟩, fun ρ2 p2 ps2 σ2 Hq sq xq => e.nx ρ2 p2 ps2 σ2 Hq sq (x2.trans s2.j xq), fun ρ2 p2 ps2 σ2 Hq sq xq => ⟨ps2, ρ2, sq, x2.trans s2.j xq, p2⟩, fun t p2 => e.rt t p2⟩
end
end Vi

/-! Comprehensions; calls; a def's promise. -/
namespace Vi
open PySem PySem.Spec PyProof.Rows L2 Fk
def gNE (i : Nat) : T → Env → Option Env := fun t ρ => some (ρ.set i (some t))
def gsNilE : List T → Env → Option Env := fun ts ρ => match ts with
  | [] => some ρ
  | _ => none
def gsConsE (f : T → Env → Option Env) (fs : List T → Env → Option Env) : List T → Env → Option Env := fun ts ρ => match ts with
  | t :: ts => (f t ρ).bind (fs ts)
  | _ => none
def gTE (n : Nat) (fs : List T → Env → Option Env) : T → Env → Option Env := fun t ρ => match t with
  | .tup ts => if ts.length = n then fs ts ρ else none
  | .kt ts => if ts.length = n then fs ts ρ else none
  | _ => none
def SGsE (C : VC) (g : TGs) (vs : List Nat) (f : List T → Env → Option Env) : Prop := ∀ (R : Res) (σ : L2.St) (ρ ρ' : Env) (H : Hp) (xs : List V) (ts : List T), R.J H → SlE C R (ρ : Env) σ H → Reps C R ts xs H → f ts ρ = some ρ' → ∀ Q : L2.St → Hp → Prop, (∀ σ', SlE C R ρ' σ' H → (∀ i, i ∉ vs → σ'[i]? = σ[i]?) → σ'.length = σ.length → Q σ' H) → g xs σ H Q
section
variable {C : VC} {E : XK} {R R' : Res} {sx : Option Addr} {H0 H H1 H2 H' : Hp} {σ σ1 : L2.St} {t : T} {v : V} {ts us : List T} {vs ws : List V} {i : Nat} {ws : List Nat}
theorem SlE.set {ρ : Env} (h : SlE C R ρ σ H) (r : Rep C R t v H) : SlE C R (ρ.set i (some t)) (σ.set i (some v)) H := ⟨by rw [List.length_set, List.length_set]; exact h.1, fun j u e => by
  by_cases q : i = j
  · subst q
    have l1 : i < ρ.length := by
      have := (List.getElem?_eq_some_iff.mp e).1
      rw [List.length_set] at this; exact this
    rw [List.getElem?_set_self l1] at e
    cases e
    have := h.1
    exact ⟨v, by rw [List.getElem?_set_self (by omega)], r⟩
  · rw [List.getElem?_set_ne q] at e
    obtain ⟨w, a, b⟩ := h.2 j u e
    exact ⟨w, by rw [List.getElem?_set_ne q]; exact a, b⟩⟩
theorem wipeE_len : ∀ {ρ : Env} {ws : List Nat}, (wipeE ρ ws).length = ρ.length
  | _, [] => rfl
  | ρ, w :: ws => by show ((wipeE ρ ws).set w none).length = _; rw [List.length_set, wipeE_len]
theorem SlE.wipe {ρ : Env} (h : SlE C R ρ σ H) : ∀ ws : List Nat, SlE C R (wipeE ρ ws) (L2.wipe σ ws) H
  | [] => h
  | w :: ws => ⟨by rw [wipeE_len, wipe_length]; exact h.1, fun j u e => by
    have ih := SlE.wipe h ws
    have e' : ((wipeE ρ ws).set w none)[j]? = some (some u) := e
    by_cases q : w = j
    · subst q
      by_cases l : w < (wipeE ρ ws).length
      · rw [List.getElem?_set_self l] at e'; cases e'
      · rw [List.getElem?_eq_none (by rw [List.length_set]; omega)] at e'; cases e'
    · rw [List.getElem?_set_ne q] at e'
      obtain ⟨x, a, b⟩ := ih.2 j u e'
      exact ⟨x, by show ((L2.wipe σ ws).set w none)[j]? = _; rw [List.getElem?_set_ne q]; exact a, b⟩⟩
theorem SlE.into {ρ : Env} {D : Addr} (hn : H D = none) (hd : D ∉ R.D ∧ D ∉ R.h) (h : SlE C R ρ σ H) : SlE C (R.add D) ρ σ H := ⟨h.1, fun i t e => let ⟨v, a, b⟩ := h.2 i t e; ⟨v, a, b.into hn hd⟩⟩
theorem XOk.into {E : XK} {Ψ : XP} {D : Addr} (hn : H D = none) (hd : D ∉ R.D ∧ D ∉ R.h) (h : XOk C E R Ψ H) : XOk C E (R.add D) Ψ H := fun c ns ts d H' g hΨ hx => h c ns ts d H' (add_into hn g) hΨ (by
  cases d with
  | none => exact hx
  | some a =>
    obtain ⟨fs, h1, ⟨h2, h2'⟩, h3, h4⟩ := hx
    cases e : H' D with
    | none => exact absurd e g.1.2
    | some o => exact ⟨fs, h1, ⟨h2, fun z => h2' (List.mem_cons_of_mem _ z)⟩, h3, Reps.out e hd h4⟩)
end
/-- the slots ws are the block's own -/
theorem wipe_get {σ : L2.St} {i : Nat} : ∀ {ws : List Nat}, i ∉ ws → (L2.wipe σ ws)[i]? = σ[i]?
  | [], _ => rfl
  | w :: ws, h => by
    show ((L2.wipe σ ws).set w none)[i]? = _
    rw [List.getElem?_set_ne fun z => h (by rw [z]; exact List.mem_cons_self), wipe_get fun z => h (List.mem_cons_of_mem _ z)]
theorem wipe_none {σ : L2.St} {i : Nat} : ∀ {ws : List Nat}, i ∈ ws → i < σ.length → (L2.wipe σ ws)[i]? = some none
  | [], h, _ => absurd h List.not_mem_nil
  | w :: ws, h, l => by
    show ((L2.wipe σ ws).set w none)[i]? = _
    by_cases q : w = i
    · subst q
      rw [List.getElem?_set_self (by rw [wipe_length]; exact l)]
    · rw [List.getElem?_set_ne q]
      exact wipe_none ((List.mem_cons.mp h).resolve_left fun z => q z.symm) l
theorem wipe_eq {σ σ' : L2.St} {ws : List Nat} (hl : σ'.length = σ.length) (h : ∀ i, i ∉ ws → σ'[i]? = σ[i]?) : L2.wipe σ' ws = L2.wipe σ ws := by
  refine List.ext_getElem? fun i => ?_
  by_cases m : i ∈ ws
  · by_cases l : i < σ.length
    · rw [wipe_none m l, wipe_none m (by omega)]
    · rw [List.getElem?_eq_none (by rw [wipe_length]; omega), List.getElem?_eq_none (by rw [wipe_length]; omega)]
  · rw [wipe_get m, wipe_get m, h i m]
section
variable {C : VC} {E : XK} {R R' : Res} {H0 H H1 H2 H' : Hp} {σ σ1 : L2.St} {t : T} {v : V} {ts us : List T} {vs : List V} {ws : List Nat} {te tk tl ta tb : TE} {tt : TT} {wi : TI} {g : TG} {m mk mv : M T} {mb : M Bool} {tA : TA} {ms : M (List T)} {f : T → Env → Option Env}
theorem sge_name (i : Nat) (hi : i ∈ ws) : SGE C (gName i) ws (gNE i) := fun R σ ρ ρ' H x t j h r e Q k => by
  cases e
  exact k _ (h.set r) (fun n hn => by rw [List.getElem?_set_ne fun z => hn (by rw [← z]; exact hi)]) (by rw [List.length_set])
theorem sges_nil : SGsE C gNil ws gsNilE := fun R σ ρ ρ' H xs ts j h r e Q k => by
  cases ts with
  | nil => cases e; cases r; exact ⟨rfl, k σ h (fun _ _ => rfl) rfl⟩
  | cons a l => exact nomatch e
theorem sges_cons {gs : TGs} {fs : List T → Env → Option Env} (h1 : SGE C g ws f) (h2 : SGsE C gs ws fs) : SGsE C (gCons g gs) ws (gsConsE f fs) := fun R σ ρ ρ' H xs ts j h r e Q k => by
  cases ts with
  | nil => exact nomatch e
  | cons a l =>
    cases r with
    | cons r1 r2 =>
      obtain ⟨ρ1, e1, e2⟩ := Option.bind_eq_some_iff.mp (show (f a ρ).bind (fs l) = some ρ' from e)
      exact ⟨_, _, rfl, h1 R σ ρ ρ1 H _ a j h r1 e1 _ fun σ1 h3 k1 l1 => h2 R σ1 ρ1 ρ' H _ l j h3 r2 e2 Q fun σ2 h4 k2 l2 => k σ2 h4 (fun i hi => (k2 i hi).trans (k1 i hi)) (l2.trans l1)⟩
theorem sge_tup {n : Nat} {gs : TGs} {fs : List T → Env → Option Env} (h2 : SGsE C gs ws fs) : SGE C (gTup C.K n gs) ws (gTE n fs) := fun R σ ρ ρ' H x t j h r e Q k => by
  cases t with
  | tup ts =>
    cases r with
    | @tup a xs _ ha hr =>
      by_cases l : ts.length = n
      · have e' : fs ts ρ = some ρ' := by rw [← e]; unfold gTE; simp [l]
        exact ⟨a, xs, rfl, .inl (.inl (ha H (Gr.refl j))), by rw [Rps.len hr]; exact l, h2 R σ ρ ρ' H xs ts j h hr e' Q k⟩
      · simp [gTE, l] at e
  | kt ts =>
    cases r with
    | @kt a xs _ ha hr =>
      by_cases l : ts.length = n
      · have e' : fs ts ρ = some ρ' := by rw [← e]; unfold gTE; simp [l]
        exact ⟨a, xs, rfl, ha H, by rw [Rps.len hr]; exact l, h2 R σ ρ ρ' H xs ts j h hr e' Q k⟩
      · simp [gTE, l] at e
  | _ => exact nomatch e
def lcGo (f : T → Env → Option Env) (mb : M Bool) (m : M T) (ρ : Env) : List T → Prog (List T)
  | [] => .ret []
  | t :: ts => match f t ρ with
    | none => .fail
    | some ρ1 => (mb ρ1).bind fun b => if b = true then (m ρ1).bind fun x => (lcGo f mb m ρ ts).bind fun xs => .ret (x :: xs) else lcGo f mb m ρ ts
def vLc (ws : List Nat) (ms : M (List T)) (f : T → Env → Option Env) (mb : M Bool) (m : M T) : M T := fun ρ => (ms ρ).bind fun ts => if ts.length ≤ 1000000 then (lcGo f mb m (wipeE ρ ws) ts).bind fun xs => .ret (.lst xs) else .fail
/-- the source's items and the block's own slots, a new thing at D -/
theorem sf_lc (hi : SI C E wi ms) (hg : SGE C g ws f) (hb : ST C E tt mb) (he : SE C E te m) : SF C E (tLc wi g tt te ws) (vLc ws ms f mb m) := fun R σ H ρ Φ Ψ hs hx hA H1 g1 Q k =>
  hi R σ H ρ _ Ψ hs hx (all_bind.mp hA) H1 g1 _ fun J H2 G Y ts pt g2 W hG yl => fun D hD => by
    by_cases hl : ts.length ≤ 1000000
    · rw [if_pos hl] at pt
      have hd := Fk.off g2.1.1 hD
      have hD1 : H1 D = none := by
        cases z : H1 D with
        | none => rfl
        | some u => rw [g2.1.2 D u z hd.1 hd.2] at hD; cases hD
      have g12 := g1.trans g2
      have hs2 : SlE C (R.add D) (wipeE ρ ws) (L2.wipe σ ws) H2 := ((hs.gr g12).wipe ws).into hD hd
      have hx2 : XOk C E (R.add D) Ψ H2 := (hx.gr g12).into hD hd
      have gn : Gr (R.add D) H2 (upd H2 D (.lst [])) := add_new g2.1.1 hD
      refine lc_it W (fun i H' => Gr (R.add D) H2 H' ∧ (∀ x, x ∈ R.h → H' x = H2 x) ∧ ∃ acc xs, H' D = some (.lst xs) ∧ Reps C (R.add D) acc xs H' ∧ acc.length ≤ i ∧ (lcGo f mb m (wipeE ρ ws) (ts.drop i)).All (fun r => Φ (.lst (acc ++ r))) Ψ)
        ⟨gn, fun x hx => L2.upd_ne fun z => hd.2 (by rw [← z]; exact hx), [], [], upd_same, .nil, Nat.zero_le _, all_bind.mp pt⟩ (fun i H' _ p => hG H' (add_into hD p.1)) (fun i x H3 H4 hi p y => ?_) fun H' p => ?_
      · obtain ⟨g3, k3, acc, xs, hx3, hr3, la, al⟩ := p
        have ht : ts[i]? = some ts[i] := List.getElem?_eq_getElem hi
        obtain ⟨g4, r4⟩ := yl (R.add D) H3 H4 i x ts[i] ht g3.1 (fun t v r => (r.into hD hd).gr g3) y
        have g24 : Gr (R.add D) H2 H4 := g3.tr g4.1
        have inh : ∀ y, y ∈ R.h → y ∈ (R.add D).h := fun y hy => List.mem_cons_of_mem _ hy
        rw [List.drop_eq_getElem_cons hi] at al
        cases hf : f ts[i] (wipeE ρ ws) with
        | none => simp only [lcGo, hf] at al; exact al.elim
        | some ρ1 =>
          simp only [lcGo, hf] at al
          refine hg (R.add D) (L2.wipe σ ws) (wipeE ρ ws) ρ1 H4 x ts[i] g4.1.1 (hs2.gr g24) r4 hf _ fun σ5 h5 k5 l5 => ?_
          refine ⟨(wipe_eq l5 k5).trans (wipe_eq (wipe_length _ _) fun j hj => wipe_get hj), ?_⟩
          refine hb (R.add D) σ5 H4 ρ1 _ Ψ h5 (hx2.gr g24) (all_bind.mp al) H4 (Gr.refl g4.1.1) _ fun b H5 g5 pb => ?_
          have g45 := g4.trans g5
          cases b with
          | false =>
            refine (if_neg Bool.false_ne_true).mpr ⟨g3.tr g45.1, fun y hy => (g45.2 y (inh y hy)).trans (k3 y hy), acc, xs, (g45.2 D List.mem_cons_self).trans hx3, hr3.gr g45.1, by omega, ?_⟩
            exact pb
          | true =>
            refine (if_pos rfl).mpr ?_
            refine he (R.add D) σ5 H4 ρ1 _ Ψ h5 (hx2.gr g24) (all_bind.mp pb) H5 g5.1 _ fun v H6 g6 ⟨u, pu, ru⟩ => ?_
            have g46 := g45.trans g6
            have h6D := (g46.2 D List.mem_cons_self).trans hx3
            have l6 := Rps.len hr3
            refine ⟨xs, h6D, small_line (by rw [l6]; omega), ?_⟩
            have gm : Gr (R.add D) H6 (upd H6 D (.lst (xs ++ [v]))) := add_mut hd (Gr.refl g6.1.1)
            refine ⟨(g3.tr g46.1).tr gm, fun y hy => (L2.upd_ne fun z => hd.2 (by rw [← z]; exact hy)).trans ((g46.2 y (inh y hy)).trans (k3 y hy)), acc ++ [u], xs ++ [v], upd_same, Rps.app ((hr3.gr g46.1).gr gm) (.cons (ru.gr gm) .nil), by rw [List.length_append]; simp; omega, ?_⟩
            refine all_imp (fun r hr => ?_) (fun _ _ _ h => h) (all_bind.mp pu)
            have : Φ (.lst (acc ++ u :: r)) := hr
            rw [List.append_assoc]
            exact this
      · obtain ⟨g3, k3, acc, xs, hx3, hr3, la, al⟩ := p
        rw [List.drop_length] at al
        have al : Φ (.lst (acc ++ [])) := al
        rw [List.append_nil] at al
        have gv : Gv R H2 H' := ⟨add_into hD g3, k3⟩
        exact k D H' (.lst acc) (.lst xs) hD1 (g2.trans gv) hx3 ⟨xs, rfl, hr3⟩ al
    · rw [if_neg hl] at pt; exact pt.elim
end
end Vi

/-! Calls; a def's promise. -/
namespace Vi
open PySem PySem.Spec PyProof.Rows L2 Fk
def Prog.hush {α : Type} : Prog α → Prog α
  | .ret a => .ret a
  | .fail => .fail
  | .exc .. => .fail
  | .draw n k => .draw n fun i => (k i).hush
theorem all_hush {α : Type} {Φ : α → Prop} {Ψ : XP} : ∀ {p : Prog α}, p.hush.All Φ Ψ → p.All Φ fun _ _ _ => False
  | .ret a, h => h
  | .fail, h => h
  | .exc .., h => h
  | .draw n k, h => ⟨h.1, h.2.1, fun i hi => all_hush (h.2.2 i hi)⟩
/-- what a def promises: from values to values, nothing else changed (but what R lets) -/
def spM (C : VC) (n : Nat) (m : List T → Prog T) : Sp := fun vs H Q _ => ∃ (R : Res) (ts : List T), vs.length = n ∧ R.J H ∧ Reps C R ts vs H ∧ (m ts).All (fun t => ∀ v H', Gv R H H' → Rep C R t v H' → Q v H') fun _ _ _ => False
/-- an __init__: the instance gets these attributes -/
def spI (C : VC) (n : Nat) (cs : List Nat) (m : Nat → List (List Nat) → List T → List T → Prog (List (List Nat) × List T)) : Sp := fun vs H Q _ => ∃ (R : Res) (ts ts0 : List T) (x dx : Addr) (c : Nat) (fs0 : List (Str × V)) (ns0 : List (List Nat)) (us : List V),
  vs = .ref x :: us ∧ vs.length = n ∧ c ∈ cs ∧ H x = some (.ins (C.cl c) dx fs0) ∧ (x ∉ R.D ∧ x ∉ R.h) ∧ R.J H ∧ fs0.map (·.1) = ns0.map zs ∧ Reps C (R.add x) ts0 (fs0.map (·.2)) H ∧ Reps C (R.add x) ts us H ∧
  (m c ns0 ts0 ts).All (fun p => ∀ H' dx' fs', Gr (R.add x) H H' → (∀ y, y ∈ R.h → H' y = H y) → H' x = some (.ins (C.cl c) dx' fs') → fs'.map (·.1) = p.1.map zs → Reps C (R.add x) p.2 (fs'.map (·.2)) H' → Q .non H') fun _ _ _ => False
def vCall (n : Nat) (m : List T → Prog T) (ms : M (List T)) : M T := fun ρ => (ms ρ).bind fun ts => if ts.length = n then (m ts).hush else .fail
/-- o.name(..): o an instance of the class c -/
def vMeth (c : Nat) (nm : List Nat) (n : Nat) (m : List T → Prog T) (a : M T) (ms : M (List T)) : M T := fun ρ => (a ρ).bind fun o => match o with
  | .ins c' ns ts => if c' = c ∧ nm ∉ ns then (ms ρ).bind fun us => if us.length + 1 = n then (m (.ins c' ns ts :: us)).hush else .fail else .fail
  | _ => .fail
def vMake (c : Nat) (n : Nat) (m : Nat → List (List Nat) → List T → List T → Prog (List (List Nat) × List T)) (ms : M (List T)) : M T := fun ρ => (ms ρ).bind fun ts => if ts.length + 1 = n then ((m c [] [] ts).hush).bind fun p => .ret (.ins c p.1 p.2) else .fail
def lookN (f : List Nat) : List (List Nat) → List T → Option T
  | n :: ns, t :: ts => if n = f then some t else lookN f ns ts
  | _, _ => none
def fldT (cs : List Nat) (f : List Nat) : T → Option T
  | .ins c ns ts => if c ∈ cs then lookN f ns ts else none
  | _ => none
def vFld (cs : List Nat) (f : List Nat) (a : M T) : M T := v1 (fldT cs f) a
section
variable {C : VC} {E : XK} {R R' : Res} {H0 H H1 H2 H' : Hp} {σ σ1 : L2.St} {t : T} {v : V} {ts us : List T} {vs : List V} {te tk tl ta tb : TE} {m : List T → Prog T} {a : M T} {tA : TA} {ms : M (List T)} {n : Nat}
theorem reps_v {ts : List T} {vs : List V} (h : Reps C R ts vs H) (k : vs = us') : Reps C R ts us' H := k ▸ h
theorem se_call (h : SA C E tA ms) : SE C E (tCall (spM C n m) [] E tA) (vCall n m ms) := fun R σ H ρ Φ Ψ hs hx hA => fun H1 g Q k =>
  h R σ H ρ _ Ψ hs hx (all_bind.mp hA) H1 g _ fun xs H2 g2 ⟨ts, ps, rs⟩ => by
    by_cases l : ts.length = n
    · rw [if_pos l] at ps
      refine ⟨R, ts, by rw [List.append_nil, Rps.len rs]; exact l, g2.1.1, by rw [List.append_nil]; exact rs, all_imp (fun t ht v H' g3 r => k v H' (g2.trans g3) ⟨t, ht, r⟩) (fun _ _ _ h => h) (all_hush ps)⟩
    · rw [if_neg l] at ps; exact ps.elim
theorem lookN_get {f : List Nat} {L : (Hp → Prop) → Prop} {dl : V → Hp → Prop} : ∀ {ns : List (List Nat)} {ts : List T} {fs : List (Str × V)} {t : T}, lookN f ns ts = some t → fs.map (·.1) = ns.map zs → Rps C dl L (fs.map (·.2)) ts → ∃ v, fs.lookup (zs f) = some v ∧ Rp C dl L v t
  | [], _, _, _, e, _, _ => by simp [lookN] at e
  | _ :: _, [], _, _, e, _, _ => by simp [lookN] at e
  | n :: ns, u :: us, [], _, _, h, _ => nomatch h
  | n :: ns, u :: us, (y, w) :: fs, t, e, h, r => by
    have h1 := List.cons.inj h
    cases r with
    | cons r1 r2 =>
      have hy : y = zs n := h1.1
      unfold lookN at e
      by_cases q : n = f
      · rw [if_pos q] at e
        cases e
        exact ⟨w, by rw [hy, q]; simp [List.lookup], r1⟩
      · rw [if_neg q] at e
        obtain ⟨v, a, b⟩ := lookN_get e h1.2 r2
        refine ⟨v, ?_, b⟩
        have : (zs f == y) = false := by
          rw [hy]
          exact beq_eq_false_iff_ne.mpr fun z => q (zs_inj z).symm
        rw [List.lookup_cons, this]
        exact a
theorem look_none {f : List Nat} : ∀ {ns : List (List Nat)} {fs : List (Str × V)}, f ∉ ns → fs.map (·.1) = ns.map zs → fs.lookup (zs f) = none
  | [], [], _, _ => rfl
  | n :: ns, (y, w) :: fs, h, e => by
    have h1 := List.cons.inj e
    have hy : y = zs n := h1.1
    have : (zs f == y) = false := by
      rw [hy]
      exact beq_eq_false_iff_ne.mpr fun z => h (by rw [zs_inj z]; exact List.mem_cons_self)
    rw [List.lookup_cons, this]
    exact look_none (fun z => h (List.mem_cons_of_mem _ z)) h1.2
  | [], _ :: _, _, e => nomatch e
  | _ :: _, [], _, e => nomatch e
theorem se_fld {cs : List Nat} {f : List Nat} {fS : Str} (ef : fS = zs f) (hc : ∀ c, c ∈ cs → Cls C.K (C.cl c) ∧ NoAttr C.K (C.cl c) fS) (h : SE C E te a) : SE C E (tFld C.K te fS) (vFld cs f a) := fun R σ H ρ Φ Ψ hs hx hA => fun H1 g Q k =>
  h R σ H ρ _ Ψ hs hx (all_bind.mp hA) H1 g _ fun x H2 g2 ⟨tx, px, rx⟩ => by
    obtain ⟨t, e, ht⟩ := all_opt.mp px
    cases tx with
    | ins c ns ts =>
      cases rx with
      | @ins a dx c fs ns ts hi hn hr =>
        have e : (if c ∈ cs then lookN f ns ts else none) = some t := e
        by_cases q : c ∈ cs
        · rw [if_pos q] at e
          obtain ⟨v, hv, rv⟩ := lookN_get e hn hr
          obtain ⟨h1, h2⟩ := hc c q
          exact ⟨a, _, dx, fs, v, rfl, hi H2 (Gr.refl g2.1.1), h1, h2, by rw [ef]; exact hv, k v H2 g2 ⟨t, ht, rv⟩⟩
        · rw [if_neg q] at e; cases e
    | _ => exact nomatch e
theorem se_meth {c : Nat} {nm : List Nat} {nS : Str} {D : Addr} (en : nS = zs nm) (eD : D = C.cl c) (h : SE C E te a) (hA : SA C E tA ms) : SE C E (tMeth D nS (spM C n m) [] E te tA) (vMeth c nm n m a ms) := fun R σ H ρ Φ Ψ hs hx hP => fun H1 g Q k =>
  h R σ H ρ _ Ψ hs hx (all_bind.mp hP) H1 g _ fun x H2 g2 ⟨tx, px, rx⟩ => by
    cases tx with
    | ins c' ns ts =>
      dsimp only at px
      have rx' : Rep C R (.ins c' ns ts) x H2 := rx
      cases rx with
      | @ins a dx c' fs ns ts hi hn hr =>
        by_cases q : c' = c ∧ nm ∉ ns
        · rw [if_pos q] at px
          refine ⟨a, dx, fs, rfl, by rw [eD, ← q.1]; exact hi H2 (Gr.refl g2.1.1), by rw [en]; exact look_none q.2 hn, ?_⟩
          refine hA R σ H ρ _ Ψ hs hx (all_bind.mp px) H2 (g.trans g2) _ fun xs H3 g3 ⟨us, ps, rs⟩ => ?_
          by_cases l : us.length + 1 = n
          · rw [if_pos l] at ps
            refine ⟨R, .ins c' ns ts :: us, by rw [List.append_nil, List.length_cons, Rps.len rs]; exact l, g3.1.1, by rw [List.append_nil]; exact .cons (rx'.gr g3.1) rs, all_imp (fun t ht v H' g4 r => k v H' (g2.trans (g3.trans g4)) ⟨t, ht, r⟩) (fun _ _ _ h => h) (all_hush ps)⟩
          · rw [if_neg l] at ps; exact ps.elim
        · rw [if_neg q] at px; exact px.elim
    | _ => exact px.elim
theorem se_make {c : Nat} {D : Addr} {cs : List Nat} {mi : Nat → List (List Nat) → List T → List T → Prog (List (List Nat) × List T)} (eD : D = C.cl c) (hc : c ∈ cs) (h : SA C E tA ms) : SE C E (tMake D (spI C n cs mi) [] E tA) (vMake c n mi ms) := fun R σ H ρ Φ Ψ hs hx hA => fun H1 g Q k =>
  h R σ H ρ _ Ψ hs hx (all_bind.mp hA) H1 g _ fun xs H2 g2 ⟨ts, ps, rs⟩ => fun x dx nx nd ne => by
    by_cases l : ts.length + 1 = n
    · rw [if_pos l] at ps
      have offx := Fk.off g2.1.1 nx
      have ga : Gv R H2 (upd H2 dx (.own x)) := Gv.new g2.1.1 nd
      have nx' : (upd H2 dx (.own x)) x = none := by rw [L2.upd_ne (fun z => ne z.symm)]; exact nx
      have gb : Gv R (upd H2 dx (.own x)) (upd (upd H2 dx (.own x)) x (.ins D dx [])) := Gv.new ga.1.1 nx'
      have gc := ga.trans gb
      have gx : Gr (R.add x) H2 (upd (upd H2 dx (.own x)) x (.ins D dx [])) := ⟨⟨gc.1.1, by rw [upd_same]; exact fun z => nomatch z⟩, fun y o e m q => gc.1.2 y o e m fun z => q (List.mem_cons_of_mem _ z)⟩
      refine ⟨R, ts, [], x, dx, c, [], [], xs, by rw [List.append_nil], by rw [List.append_nil, List.length_cons, Rps.len rs]; exact l, hc, by rw [upd_same, eD], offx, gc.1.1, rfl, .nil, (rs.into nx offx).gr gx, ?_⟩
      refine all_imp (fun p hp H' dx' fs' g3 k3 e3 n3 r3 => ⟨rfl, ?_⟩) (fun _ _ _ h => h) (all_hush (all_bind.mp ps))
      have gv : Gv R H2 H' := ⟨⟨g3.1.1, fun y o e m q => by
        have y1 : y ≠ x := ne_of_none e nx
        exact g3.2 y o (gc.1.2 y o e m q) m fun z => (List.mem_cons.mp z).elim y1 q⟩, fun y hy => (k3 y hy).trans (gc.2 y hy)⟩
      exact k _ H' (g2.trans gv) ⟨_, hp, rep_ins e3 offx n3 (Reps.out e3 offx r3)⟩
    · rw [if_neg l] at ps; exact ps.elim
end
/-! ### a def's body keeps its promise -/
def outT : Out → Prog T
  | .nx _ => .ret .non
  | .rt t => .ret t
  | _ => .fail
def runF (n : Nat) (mb : MS) (args : List T) : Prog T := (mb (args.map Slot.sh ++ List.replicate (n - args.length) Slot.no)).bind outT
section
variable {C : VC} {E : XK} {R : Res} {H : Hp} {ts : TS} {mb : MS} {N : List Str} {vs : List V} {Q : VK} {E' : XK} {n : Nat}
theorem slots0 {us : List T} (r : Reps C R us vs H) (n : Nat) (hl : vs.length ≤ n) (j : R.J H) : StOk C R none H [] (us.map Slot.sh ++ List.replicate (n - us.length) Slot.no) (vs.map some ++ List.replicate (n - vs.length) none) H where
  ow := True.intro
  fr := fun p hp => absurd hp List.not_mem_nil
  gr := fun x o e _ _ _ => e
  kp := fun x _ => rfl
  j := j
  nt := fun p hp => absurd hp List.not_mem_nil
  len := by
    have := Rps.len r
    simp only [List.length_append, List.length_map, List.length_replicate]
    omega
  sl := fun i s o a b => by
    have l := Rps.len r
    by_cases q : i < us.length
    · rw [List.getElem?_append_left (by rw [List.length_map]; exact q), List.getElem?_map] at a
      rw [List.getElem?_append_left (by rw [List.length_map]; omega), List.getElem?_map] at b
      obtain ⟨u, hu, rfl⟩ := Option.map_eq_some_iff.mp a
      obtain ⟨w, hw, rfl⟩ := Option.map_eq_some_iff.mp b
      obtain ⟨v, hv, rv⟩ := Rps.get r hu
      rw [hw] at hv; cases hv
      exact rv
    · rw [List.getElem?_append_right (by rw [List.length_map]; omega)] at a
      have : s = Slot.no := (List.mem_replicate.mp (List.mem_of_getElem? a)).2
      rw [this]; exact True.intro
  ds := fun i j s s' p a b oa ob pa pb => by
    have get : ∀ {k : Nat} {z : Slot}, (us.map Slot.sh ++ List.replicate (n - us.length) Slot.no)[k]? = some z → isOwn z = true → False := fun {k z} e o => by
      rcases List.mem_append.mp (List.mem_of_getElem? e) with h | h
      · obtain ⟨t, _, rfl⟩ := List.mem_map.mp h; cases o
      · rw [(List.mem_replicate.mp h).2] at o; cases o
    exact (get a oa).elim
theorem ss_run (ss : SS C E ts mb) (h : spM C n (runF N.length mb) vs H Q E') (hn : n ≤ N.length) : ts { nx := fun _ H' => Q .non H', rt := Q } (start N vs) H := by
  obtain ⟨R, us, hl, j, r, al⟩ := h
  refine ss R none H [] _ _ H (fun o => (outT o).All (fun t => ∀ v H', Gv R H H' → Rep C R t v H' → Q v H') fun _ _ _ => False) (fun _ _ _ => False) _ (slots0 r N.length (by omega) j) (fun c ns ts d H' _ _ f => f.elim) (all_bind.mp al) ⟨fun ρ p ps σ H' s x => ?_, fun ρ p => p.elim, fun ρ p => p.elim, fun t p v H' j' g k' rt => ?_⟩
  · exact p .non H' ⟨⟨s.jr, fun x o e m k => s.gr x o e m k (fun z => nomatch z)⟩, s.kp⟩ .non
  · exact p v H' ⟨⟨j', fun x o e m k => g x o e m k (fun z => nomatch z)⟩, k'⟩ rt
end
end Vi

/-! An __init__: the instance's attributes. -/
namespace Vi
open PySem PySem.Spec PyProof.Rows L2 Fk
section
variable {C : VC} {E : XK} {R : Res} {sx : Option Addr} {H0 H H1 H2 H' : Hp} {ps qs : List Addr} {ρ ρ1 : EnvS} {σ σ1 : L2.St} {t : T} {v : V} {ts us : List T} {vs : List V} {i : Nat} {Ψ : XP} {te : TE} {m : M T}
theorem gr_less (sub : ∀ p, p ∈ qs → p ∈ ps) (hn : ∀ p, p ∈ ps → H p ≠ none) (off : ∀ p, p ∈ ps → p ∉ R.D ∧ p ∉ R.h) (g : Gr (wth R qs) H H') : Gr (wth R ps) H H' := by
  obtain ⟨jr, jp⟩ := wth_J.mp g.1
  refine ⟨wth_J.mpr ⟨jr, fun p hp => ?_⟩, fun x o e n m => g.2 x o e (by rw [wth_D] at n ⊢; exact n) fun z => m (wth_h.mpr ((wth_h.mp z).imp (sub x) id))⟩
  by_cases q : p ∈ qs
  · exact jp p q
  · cases z : H p with
    | none => exact absurd z (hn p hp)
    | some o => rw [g.2 p o z (by rw [wth_D]; exact (off p hp).1) fun y => (wth_h.mp y).elim q (off p hp).2]; exact fun y => nomatch y
theorem gv_less (sub : ∀ p, p ∈ qs → p ∈ ps) (g : Gv (wth R ps) H H') : Gv (wth R qs) H H' := by
  obtain ⟨jr, jp⟩ := wth_J.mp g.1.1
  refine ⟨⟨wth_J.mpr ⟨jr, fun p hp => jp p (sub p hp)⟩, fun x o e n m => ?_⟩, fun x hx => g.2 x (wth_h.mpr ((wth_h.mp hx).imp (sub x) id))⟩
  by_cases q : x ∈ ps
  · rw [g.2 x (wth_h.mpr (.inl q))]; exact e
  · exact g.1.2 x o e (by rw [wth_D] at n ⊢; exact n) fun z => (wth_h.mp z).elim q fun y => m (wth_h.mpr (.inr y))
theorem rep_less (sub : ∀ p, p ∈ qs → p ∈ ps) (hn : ∀ p, p ∈ ps → H p ≠ none) (off : ∀ p, p ∈ ps → p ∉ R.D ∧ p ∉ R.h) (h : Rep C (wth R ps) t v H) : Rep C (wth R qs) t v H :=
  Rp.imp (fun v z => fun H' g y lo n Q E ok j h0 h1 q => z H' (gr_less sub hn off g) y lo n Q E ok (gr_less sub hn off g).1 h0 h1 fun i hi H2 g2 => q i hi H2 (gv_less sub g2)) (fun φ z => fun H' g => z H' (gr_less sub hn off g)) h
theorem reps_less (sub : ∀ p, p ∈ qs → p ∈ ps) (hn : ∀ p, p ∈ ps → H p ≠ none) (off : ∀ p, p ∈ ps → p ∉ R.D ∧ p ∉ R.h) (h : Reps C (wth R ps) ts vs H) : Reps C (wth R qs) ts vs H :=
  Rps.imp (fun v z => fun H' g y lo n Q E ok j h0 h1 q => z H' (gr_less sub hn off g) y lo n Q E ok (gr_less sub hn off g).1 h0 h1 fun i hi H2 g2 => q i hi H2 (gv_less sub g2)) (fun φ z => fun H' g => z H' (gr_less sub hn off g)) h
end
/-- the instance under way, and what is shared -/
def seeN : Slot → Option T
  | .sh t => some t
  | .self c ns ts => some (.ins c ns ts)
  | _ => none
mutual
/-- no instance is in it -/
def noIns : T → Bool
  | .non => true | .bl _ => true | .int _ => true | .str _ => true | .ty _ => true | .cl _ => true
  | .tup ts => noInss ts | .lst ts => noInss ts | .kt ts => noInss ts | .dK _ ts => noInss ts | .dT _ ts => noInss ts
  | .ins _ _ _ => false | .dl => false
def noInss : List T → Bool
  | [] => true
  | t :: ts => noIns t && noInss ts
end
def putN (f : List Nat) (t : T) : List (List Nat) → List T → List (List Nat) × List T
  | n :: ns, u :: us => if n = f then (n :: ns, t :: us) else let r := putN f t ns us; (n :: r.1, u :: r.2)
  | _, _ => ([f], [t])
/-- self.f = e -/
def vSetF (i : Nat) (cs : List Nat) (f : List Nat) (m : M T) : MS := fun ρ => match ρ[i]? with
  | some (.self c ns ts) => (m (ρ.map seeN)).bind fun t => if (noIns t = true ∧ ts.length < 1000) ∧ c ∈ cs then let r := putN f t ns ts; .ret (.nx (ρ.set i (.self c r.1 r.2))) else .fail
  | _ => .fail
/-- self.f = e, e not of the instance -/
def vSetFS (i : Nat) (cs : List Nat) (f : List Nat) (m : M T) : MS := fun ρ => match ρ[i]? with
  | some (.self c ns ts) => (m (ρ.map seeS)).bind fun t => if ts.length < 1000 ∧ c ∈ cs then let r := putN f t ns ts; .ret (.nx (ρ.set i (.self c r.1 r.2))) else .fail
  | _ => .fail
section
variable {C : VC} {E : XK} {R : Res} {sx : Option Addr} {H0 H H1 H2 H' : Hp} {ps qs : List Addr} {ρ ρ1 : EnvS} {σ σ1 : L2.St} {t : T} {v : V} {ts us : List T} {vs : List V} {i : Nat} {Ψ : XP} {te : TE} {m : M T} {x : Addr}
theorem seeN_ok (h : StOk C R (some x) H0 ps ρ σ H) (hx : x ∈ ps) : SlE C (wth R (ps.filter fun p => decide (p ≠ x))) (ρ.map seeN) σ H := ⟨by rw [List.length_map, h.len]; exact Nat.le_refl _, fun i t e => by
  have sub : ∀ p, p ∈ (ps.filter fun p => decide (p ≠ x)) → p ∈ ps := fun p hp => (List.mem_filter.mp hp).1
  have off : ∀ p, p ∈ ps → p ∉ R.D ∧ p ∉ R.h := fun p hp => h.ow.off hp
  rw [List.getElem?_map] at e
  obtain ⟨s, hs, e⟩ := Option.map_eq_some_iff.mp e
  have lt : i < σ.length := by rw [← h.len]; exact (List.getElem?_eq_some_iff.mp hs).1
  have hk := h.sl i _ _ hs (List.getElem?_eq_getElem lt)
  cases q : σ[i] with
  | none => rw [q] at hk; cases s <;> first | exact (hk : False).elim | (simp [seeN] at e)
  | some v =>
    rw [q] at hk
    have hv : σ[i]? = some (some v) := by rw [List.getElem?_eq_getElem lt, q]
    cases s with
    | sh u => cases e; exact ⟨v, hv, rep_less sub h.pres off hk⟩
    | self c ns ts => cases v with
      | ref p =>
        cases e
        obtain ⟨h1, h0, dx, fs, h2, h3, h4⟩ := hk
        cases h0
        refine ⟨_, hv, rep_ins h2 ⟨by rw [wth_D]; exact (off _ h1).1, fun z => ?_⟩ h3 (reps_less sub h.pres off h4)⟩
        rcases wth_h.mp z with y | y
        · have := (List.mem_filter.mp y).2
          simp at this
        · exact (off _ h1).2 y
      | _ => exact hk.elim
    | _ => simp [seeN] at e⟩
theorem xN (xf : XOkF C E R (some x) Ψ H0) (h : StOk C R (some x) H0 ps ρ σ H) : XOk C E (wth R (ps.filter fun p => decide (p ≠ x))) Ψ H := fun c ns ts d H' g hΨ hd => by
  have sub : ∀ p, p ∈ (ps.filter fun p => decide (p ≠ x)) → p ∈ ps := fun p hp => (List.mem_filter.mp hp).1
  have off : ∀ p, p ∈ ps → p ∉ R.D ∧ p ∉ R.h := fun p hp => h.ow.off hp
  have g' := gr_less sub h.pres off g
  refine xf c ns ts d H' (wth_J.mp g.1).1 (fun y o e n m k => ?_) hΨ ?_
  · by_cases hy : y ∈ ps
    · rcases h.fr y hy with z | z
      · rw [z] at e; cases e
      · exact absurd z k
    · exact g'.2 y o (h.gr y o e n m k) (by rw [wth_D]; exact n) fun z => (wth_h.mp z).elim hy m
  · cases d with
    | none => exact hd
    | some a =>
      obtain ⟨fs, h1, ⟨h2, h2'⟩, h3, h4⟩ := hd
      have r : Reps C (wth R []) ts (fs.map (·.2)) H' := reps_less (fun p hp => absurd hp List.not_mem_nil) (wth_J.mp g.1).2 (fun p hp => off p (sub p hp)) h4
      exact ⟨fs, h1, ⟨fun z => h2 (by rw [wth_D]; exact z), fun z => h2' (wth_h.mpr (.inr z))⟩, h3, r⟩
/-- what has no instance in it does not hang on the one under way -/
theorem leafN {φ : Hp → Prop} {a : Addr} {o : HO} (hφ : ∀ G : Hp, φ G ↔ G a = some o) (no : ∀ C dx fs, o ≠ .ins C dx fs) (h : StOk C R (some x) H0 ps ρ σ H) (hx : x ∈ ps) {D dx : Addr} {fs : List (Str × V)} (hxi : H x = some (.ins D dx fs))
    (z : Al (wth R (ps.filter fun p => decide (p ≠ x))) φ H) : Al (wth R ps) φ H := fun H' g => by
  have now : H a = some o := (hφ H).mp (z H (Gr.refl (wth_J.mpr ⟨h.jr, fun p hp => h.pres p (List.mem_filter.mp hp).1⟩)))
  have ne : a ≠ x := fun e => by rw [e, hxi] at now; exact no _ _ _ (Option.some.inj now).symm
  obtain ⟨jr, jp⟩ := wth_J.mp g.1
  let H'' : Hp := fun y => if y = x then H x else H' y
  have e1 : ∀ y, y ≠ x → H'' y = H' y := fun y hy => if_neg hy
  have e2 : H'' x = H x := if_pos rfl
  have offx := h.ow.off hx
  have gg : Gr (wth R (ps.filter fun p => decide (p ≠ x))) H H'' := by
    refine ⟨wth_J.mpr ⟨R.st H' H'' jr (fun y hy => e1 y fun q => offx.1 (by rw [← q]; exact hy)) fun y hy => ?_, fun p hp => ?_⟩, fun y u e n m => ?_⟩
    · rw [e1 y fun q => offx.2 (by rw [← q]; exact hy)]; exact R.at_ H' jr y (.inr hy)
    · have hp' := List.mem_filter.mp hp
      rw [e1 p (by simpa using hp'.2)]; exact jp p hp'.1
    · by_cases q : y = x
      · rw [q, e2]; rw [q] at e; exact e
      · rw [e1 y q]
        refine g.2 y u e (by rw [wth_D] at n ⊢; exact n) fun w => m (wth_h.mpr ?_)
        rcases wth_h.mp w with w | w
        · exact .inl (List.mem_filter.mpr ⟨w, by simpa using q⟩)
        · exact .inr w
  have := (hφ H'').mp (z H'' gg)
  rw [e1 a ne] at this
  exact (hφ H').mpr this
mutual
theorem rep_noins (h : StOk C R (some x) H0 ps ρ σ H) (hx : x ∈ ps) {D dx : Addr} {fs : List (Str × V)} (hxi : H x = some (.ins D dx fs)) : ∀ {t : T} {v : V}, noIns t = true → Rep C (wth R (ps.filter fun p => decide (p ≠ x))) t v H → Rep C (wth R ps) t v H
  | .non, _, _, r => by cases r; exact .non
  | .bl _, _, _, r => by cases r; exact .bl _
  | .int _, _, _, r => by cases r; exact .int _
  | .str _, _, _, r => by cases r; exact .str _
  | .ty _, _, _, r => by cases r; exact .ty _
  | .cl _, _, _, r => by cases r; exact .cl _
  | .dl, _, p, _ => nomatch p
  | .ins _ _ _, _, p, _ => nomatch p
  | .lst ts, _, p, r => by cases r with | lst h1 h2 => exact .lst (leafN (fun G => Iff.rfl) (fun _ _ _ q => nomatch q) h hx hxi h1) (reps_noins h hx hxi p h2)
  | .tup ts, _, p, r => by cases r with | tup h1 h2 => exact .tup (leafN (fun G => Iff.rfl) (fun _ _ _ q => nomatch q) h hx hxi h1) (reps_noins h hx hxi p h2)
  | .kt ts, _, p, r => by cases r with | kt h1 h2 => exact .kt h1 (reps_noins h hx hxi p h2)
  | .dK ks ts, _, p, r => by cases r with | dK h1 hk h2 => exact .dK (leafN (fun G => Iff.rfl) (fun _ _ _ q => nomatch q) h hx hxi h1) hk (reps_noins h hx hxi p h2)
  | .dT ks ts, _, p, r => by cases r with | dT h1 hk h2 => exact .dT (leafN (fun G => Iff.rfl) (fun _ _ _ q => nomatch q) h hx hxi h1) hk (reps_noins h hx hxi p h2)
theorem reps_noins (h : StOk C R (some x) H0 ps ρ σ H) (hx : x ∈ ps) {D dx : Addr} {fs : List (Str × V)} (hxi : H x = some (.ins D dx fs)) : ∀ {ts : List T} {vs : List V}, noInss ts = true → Reps C (wth R (ps.filter fun p => decide (p ≠ x))) ts vs H → Reps C (wth R ps) ts vs H
  | [], _, _, r => by cases r; exact .nil
  | _ :: _, _, p, r => by
    cases r with
    | cons r1 r2 =>
      obtain ⟨p1, p2⟩ := Bool.and_eq_true_iff.mp p
      exact .cons (rep_noins h hx hxi p1 r1) (reps_noins h hx hxi p2 r2)
end
theorem putN_ok {f : List Nat} {L : (Hp → Prop) → Prop} {dl : V → Hp → Prop} {v : V} {t : T} (hv : Rp C dl L v t) : ∀ {ns : List (List Nat)} {ts : List T} {fs : List (Str × V)}, fs.map (·.1) = ns.map zs → Rps C dl L (fs.map (·.2)) ts → (putF (zs f) v fs).map (·.1) = (putN f t ns ts).1.map zs ∧ Rps C dl L ((putF (zs f) v fs).map (·.2)) (putN f t ns ts).2
  | [], ts, [], _, r => by cases r; exact ⟨rfl, .cons hv .nil⟩
  | [], _, _ :: _, h, _ => nomatch h
  | _ :: _, _, [], h, _ => nomatch h
  | n :: ns, ts, (y, w) :: fs, h, r => by
    have h1 := List.cons.inj h
    have hy : y = zs n := h1.1
    cases r with
    | @cons _ _ u us r1 r2 =>
      by_cases q : n = f
      · have e1 : putF (zs f) v ((y, w) :: fs) = (y, v) :: fs := by rw [hy, q]; simp [putF]
        have e2 : putN f t (n :: ns) (u :: us) = (n :: ns, t :: us) := by simp [putN, q]
        rw [e1, e2]
        exact ⟨h, .cons hv r2⟩
      · have ne : ¬ y = zs f := by rw [hy]; exact fun z => q (zs_inj z)
        have e1 : putF (zs f) v ((y, w) :: fs) = (y, w) :: putF (zs f) v fs := by simp [putF, ne]
        have e2 : putN f t (n :: ns) (u :: us) = (n :: (putN f t ns us).1, u :: (putN f t ns us).2) := by simp [putN, q]
        rw [e1, e2]
        obtain ⟨a, b⟩ := putN_ok hv h1.2 r2
        exact ⟨by rw [List.map_cons, List.map_cons, a, hy], .cons r1 b⟩
theorem self_set {c : Nat} {ns : List (List Nat)} {f : List Nat} (hs : StOk C R sx H0 ps ρ σ H) (hi : ρ[i]? = some (.self c ns ts)) (rt : Rep C (wth R ps) t v H) : ∃ p dx fs, σ[i]? = some (some (.ref p)) ∧ sx = some p ∧ H p = some (.ins (C.cl c) dx fs) ∧ fs.length = ts.length ∧
    (StOk C R sx H0 ps (ρ.set i (.self c (putN f t ns ts).1 (putN f t ns ts).2)) σ (upd H p (.ins (C.cl c) dx (putF (zs f) v fs))) ∧ Ext R ps H ps (upd H p (.ins (C.cl c) dx (putF (zs f) v fs)))) := by
  obtain ⟨p, hv, hm, h0, dx, fs, hp, hn, hr⟩ := own_at hs hi rfl
  have gu := gr_upd (o := .ins (C.cl c) dx (putF (zs f) v fs)) hs.ow hm hs.j
  obtain ⟨a, b⟩ := putN_ok (f := f) (rt.gr gu) hn (hr.gr gu)
  have l := Rps.len hr
  rw [List.length_map] at l
  exact ⟨p, dx, fs, hv, h0, hp, l, hs.updOwn hi rfl hv hm (s' := .self c (putN f t ns ts).1 (putN f t ns ts).2) rfl ⟨hm, h0, dx, _, upd_same, a, b⟩ (fun _ z => nomatch z)⟩
theorem ss_setF (i : Nat) {f : List Nat} {fS : Str} {cs : List Nat} (ef : fS = zs f) (hc : ∀ c, c ∈ cs → Cls C.K (C.cl c) ∧ NoAttr C.K (C.cl c) fS) (h : SE C E te m) : SS C E (sFld C.K (tVar i) te fS) (vSetF i cs f m) := fun R sx H0 ps ρ σ H Φ Ψ D hs x hA e => by
  unfold vSetF at hA
  cases q : ρ[i]? with
  | none => rw [q] at hA; exact hA.elim
  | some s =>
    cases s with
    | self c ns ts =>
      rw [q] at hA
      obtain ⟨p, hv, hm, h0, dx0, fs0, hp0, _⟩ := own_at hs q rfl
      subst h0
      refine h (wth R (ps.filter fun y => decide (y ≠ p))) σ H (ρ.map seeN) _ Ψ (seeN_ok hs hm) (xN x hs) (all_bind.mp hA) H (Gr.refl (wth_J.mpr ⟨hs.jr, fun y hy => hs.pres y (List.mem_filter.mp hy).1⟩)) _ fun v H2 g ⟨t, pt, rt⟩ => ?_
      have off : ∀ y, y ∈ ps → y ∉ R.D ∧ y ∉ R.h := fun y hy => hs.ow.off hy
      have hx2 : ∀ y, y ∈ ps → H2 y = H y := fun y hy => by
        by_cases z : y = p
        · rw [z, hp0]
          refine g.1.2 p _ hp0 (by rw [wth_D]; exact (off p hm).1) fun w => ?_
          rcases wth_h.mp w with w | w
          · have := (List.mem_filter.mp w).2; simp at this
          · exact (off p hm).2 w
        · exact g.2 y (wth_h.mpr (.inl (List.mem_filter.mpr ⟨hy, by simpa using z⟩)))
      have gw : Gv (wth R ps) H H2 := ⟨⟨wth_J.mpr ⟨(wth_J.mp g.1.1).1, fun y hy => by rw [hx2 y hy]; exact hs.pres y hy⟩, fun y u e n m => g.1.2 y u e (by rw [wth_D] at n ⊢; exact n) fun w => m (wth_h.mpr ((wth_h.mp w).imp (fun z => (List.mem_filter.mp z).1) id))⟩, fun y hy => by
        rcases wth_h.mp hy with w | w
        · exact hx2 y w
        · exact g.2 y (wth_h.mpr (.inr w))⟩
      have h2 := hs.gv gw
      by_cases l : (noIns t = true ∧ ts.length < 1000) ∧ c ∈ cs
      · rw [if_pos l] at pt
        have hxi2 : H2 p = some (.ins (C.cl c) dx0 fs0) := by rw [hx2 p hm]; exact hp0
        have rt2 := rep_noins h2 hm hxi2 l.1.1 rt
        obtain ⟨p2, dx, fs, hv2, _, hp2, lf, h3, x3⟩ := self_set (f := f) h2 q rt2
        have ep : p2 = p := by rw [hv] at hv2; cases hv2; rfl
        subst ep
        obtain ⟨c1, c2⟩ := hc c l.2
        refine ⟨.ref p2, hv, p2, _, dx, fs, rfl, hp2, c1, c2, by rw [lf]; exact l.1.2, ?_⟩
        rw [ef]
        exact e.nx _ pt ps σ _ h3 ((Ext.gv hs.ow gw).trans h2.j x3)
      · rw [if_neg l] at pt; exact pt.elim
    | _ => rw [q] at hA; exact hA.elim
theorem ss_setFS (i : Nat) {f : List Nat} {fS : Str} {cs : List Nat} (ef : fS = zs f) (hc : ∀ c, c ∈ cs → Cls C.K (C.cl c) ∧ NoAttr C.K (C.cl c) fS) (h : SE C E te m) : SS C E (sFld C.K (tVar i) te fS) (vSetFS i cs f m) := fun R sx H0 ps ρ σ H Φ Ψ D hs x hA e => by
  unfold vSetFS at hA
  cases q : ρ[i]? with
  | none => rw [q] at hA; exact hA.elim
  | some s =>
    cases s with
    | self c ns ts =>
      rw [q] at hA
      refine h.runS hs x (all_bind.mp hA) fun v H2 t g h2 pt rt => ?_
      by_cases l : ts.length < 1000 ∧ c ∈ cs
      · rw [if_pos l] at pt
        obtain ⟨p2, dx, fs, hv2, _, hp2, lf, h3, x3⟩ := self_set (f := f) h2 q rt
        obtain ⟨c1, c2⟩ := hc c l.2
        refine ⟨.ref p2, hv2, p2, _, dx, fs, rfl, hp2, c1, c2, by rw [lf]; exact l.1, ?_⟩
        rw [ef]
        exact e.nx _ pt ps σ _ h3 ((Ext.gv hs.ow g).trans h2.j x3)
      · rw [if_neg l] at pt; exact pt.elim
    | _ => rw [q] at hA; exact hA.elim
theorem rep_congr {R1 R2 : Res} (hD : R1.D = R2.D) (hh : ∀ x, x ∈ R1.h ↔ x ∈ R2.h) (hJ : ∀ H, R1.J H ↔ R2.J H) (h : Reps C R1 ts vs H) : Reps C R2 ts vs H := by
  have g21 : ∀ {H H' : Hp}, Gr R2 H H' → Gr R1 H H' := fun g => ⟨(hJ _).mpr g.1, fun x o e n m => g.2 x o e (by rw [← hD]; exact n) fun z => m ((hh x).mpr z)⟩
  have g12 : ∀ {H H' : Hp}, Gv R1 H H' → Gv R2 H H' := fun g => ⟨⟨(hJ _).mp g.1.1, fun x o e n m => g.1.2 x o e (by rw [hD]; exact n) fun z => m ((hh x).mp z)⟩, fun x hx => g.2 x ((hh x).mpr hx)⟩
  exact Rps.imp (fun v z => fun H' g y lo n Q E ok j h0 h1 q => z H' (g21 g) y lo n Q E ok (g21 g).1 h0 h1 fun i hi H2 g2 => q i hi H2 (g12 g2)) (fun φ z => fun H' g => z H' (g21 g)) h
/-- Base.__init__(self, ..) -/
def vOffI (i n : Nat) (cs : List Nat) (mi : Nat → List (List Nat) → List T → List T → Prog (List (List Nat) × List T)) (ms : M (List T)) : MS := fun ρ => match ρ[i]? with
  | some (.self c ns ts) => (ms (ρ.map seeS)).bind fun us => if us.length + 1 = n ∧ c ∈ cs then ((mi c ns ts us).hush).bind fun p => .ret (.nx (ρ.set i (.self c p.1 p.2))) else .fail
  | _ => .fail
theorem ss_offI (i : Nat) {n : Nat} {cs : List Nat} {D0 : Addr} {mi : Nat → List (List Nat) → List T → List T → Prog (List (List Nat) × List T)} {tA : TA} {ms : M (List T)} {E' : XK} (h : SA C E tA ms) : SS C E (tDrop (tOff D0 (spI C n cs mi) E' (tC (.ref D0)) (tCons (tVar i) tA))) (vOffI i n cs mi ms) := fun R sx H0 ps ρ σ H Φ Ψ D hs x hA e => by
  unfold vOffI at hA
  cases q : ρ[i]? with
  | none => rw [q] at hA; exact hA.elim
  | some s =>
    cases s with
    | self c ns ts =>
      rw [q] at hA
      obtain ⟨p0, hv, hm, _⟩ := own_at hs q rfl
      refine ⟨rfl, .ref p0, hv, ?_⟩
      refine h (wth R ps) σ H (ρ.map Vi.seeS) _ Ψ hs.shown (x.atS hs) (all_bind.mp hA) H (Gr.refl hs.j) _ fun us H2 g ⟨vs, pt, rt⟩ => ?_
      have h2 := hs.gv g
      obtain ⟨p, hv2, hm2, h0, dx, fs, hp, hn, hr⟩ := own_at h2 q rfl
      have ep : p = p0 := by rw [hv] at hv2; cases hv2; rfl
      subst ep
      by_cases l : vs.length + 1 = n ∧ c ∈ cs
      · rw [if_pos l] at pt
        have off := h2.ow.off hm
        have jr := h2.jr
        let qs := ps.filter fun y => decide (y ≠ p)
        have hq : ∀ y, y ∈ p :: qs ↔ y ∈ ps := fun y => by
          constructor
          · intro z
            rcases List.mem_cons.mp z with z | z
            · rw [z]; exact hm
            · exact (List.mem_filter.mp z).1
          · intro z
            by_cases w : y = p
            · rw [w]; exact List.mem_cons_self
            · exact List.mem_cons_of_mem _ (List.mem_filter.mpr ⟨z, by simpa using w⟩)
        have cD : (wth R ps).D = ((wth R qs).add p).D := by rw [wth_D]; exact (wth_D (ps := p :: qs)).symm
        have ch : ∀ y, y ∈ (wth R ps).h ↔ y ∈ ((wth R qs).add p).h := fun y => by
          rw [wth_h]
          exact ((or_congr_left (hq y)).symm).trans (wth_h (ps := p :: qs)).symm
        have cJ : ∀ G, (wth R ps).J G ↔ ((wth R qs).add p).J G := fun G => by
          rw [wth_J]
          refine (and_congr Iff.rfl ?_).trans (wth_J (ps := p :: qs)).symm
          exact ⟨fun z y hy => z y ((hq y).mp hy), fun z y hy => z y ((hq y).mpr hy)⟩
        have offp : p ∉ (wth R qs).D ∧ p ∉ (wth R qs).h := ⟨by rw [wth_D]; exact off.1, fun z => (wth_h.mp z).elim (fun w => by have := (List.mem_filter.mp w).2; simp at this) off.2⟩
        refine ⟨wth R qs, vs, ts, p, dx, c, fs, ns, us, rfl, by rw [List.length_cons, Rps.len rt]; exact l.1, l.2, hp, offp, ((cJ H2).mp h2.j).1, hn, rep_congr cD ch cJ hr, rep_congr cD ch cJ rt, ?_⟩
        refine all_imp (fun pr hpr H' dx' fs' g3 k3 e3 n3 r3 => ?_) (fun _ _ _ f => f) (all_hush (all_bind.mp pt))
        -- the heap behind
        have r4 := rep_congr cD.symm (fun y => (ch y).symm) (fun G => (cJ G).symm) r3
        have same : ∀ y, y ∈ ps → y ≠ p → H' y = H2 y := fun y hy ne => k3 y (wth_h.mpr (.inl (List.mem_filter.mpr ⟨hy, by simpa using ne⟩)))
        have gg : Gr (wth R ps) H2 H' := ⟨(cJ H').mpr g3.1, fun y u e1 n1 m1 => g3.2 y u e1 (by rw [← cD]; exact n1) fun z => m1 ((ch y).mpr z)⟩
        have kh : ∀ y, y ∈ R.h → H' y = H2 y := fun y hy => k3 y (wth_h.mpr (.inr hy))
        have st : StOk C R sx H0 ps (ρ.set i (.self c pr.1 pr.2)) σ H' := by
          refine ⟨h2.ow, h2.fr, fun y u e1 n1 m1 k1 => ?_, fun y hy => (kh y hy).trans (h2.kp y hy), gg.1, fun y hy xs => ?_, by rw [List.length_set]; exact h2.len, fun j s u a b => ?_, fun a b s s' z ha hb oa ob pa pb => ?_⟩
          · have e2 := h2.gr y u e1 n1 m1 k1
            by_cases hy : y ∈ ps
            · rcases h2.fr y hy with w | w
              · rw [w] at e1; cases e1
              · exact absurd w k1
            · exact gg.2 y u e2 (by rw [wth_D]; exact n1) fun w => (wth_h.mp w).elim hy m1
          · by_cases ne : y = p
            · rw [ne, e3]; exact fun w => nomatch w
            · rw [same y hy ne]; exact h2.nt y hy xs
          · by_cases ij : i = j
            · subst ij
              have l1 : i < ρ.length := (List.getElem?_eq_some_iff.mp q).1
              rw [List.getElem?_set_self l1] at a
              rw [hv] at b
              cases a; cases b
              exact ⟨hm, h0, dx', fs', e3, n3, r4⟩
            · rw [List.getElem?_set_ne ij] at a
              have old := h2.sl j s u a b
              have nep : isOwn s = true → u ≠ some (.ref p) := fun o w => by
                rw [w] at b
                exact ij (h2.ds i j _ s p q a rfl o hv b)
              cases s with
              | no => exact True.intro
              | sh t => cases u with
                | none => exact old.elim
                | some w => exact Rep.gr gg old
              | own t => cases u with
                | none => exact old.elim
                | some w => cases w with
                  | ref y => obtain ⟨a1, vs1, a2, a3⟩ := old; exact ⟨a1, vs1, (same y a1 fun w => nep rfl (by rw [w])).trans a2, a3.gr gg⟩
                  | _ => exact old.elim
              | self c1 n1 t1 => cases u with
                | none => exact old.elim
                | some w => cases w with
                  | ref y => obtain ⟨a1, a0, d1, f1, a2, a3, a4⟩ := old; exact ⟨a1, a0, d1, f1, (same y a1 fun w => nep rfl (by rw [w])).trans a2, a3, a4.gr gg⟩
                  | _ => exact old.elim
              | ownK k1 t1 => cases u with
                | none => exact old.elim
                | some w => cases w with
                  | ref y => obtain ⟨a1, v1, a2, a3, a4⟩ := old; exact ⟨a1, v1, (same y a1 fun w => nep rfl (by rw [w])).trans a2, a3, a4.gr gg⟩
                  | _ => exact old.elim
              | ownT k1 t1 => cases u with
                | none => exact old.elim
                | some w => cases w with
                  | ref y => obtain ⟨a1, v1, a2, a3, a4⟩ := old; exact ⟨a1, v1, (same y a1 fun w => nep rfl (by rw [w])).trans a2, a3, a4.gr gg⟩
                  | _ => exact old.elim
          · have get : ∀ {k : Nat} {z : Slot}, (ρ.set i (.self c pr.1 pr.2))[k]? = some z → isOwn z = true → ∃ z', ρ[k]? = some z' ∧ isOwn z' = true := fun {k z} hz oz => by
              by_cases w : i = k
              · subst w; exact ⟨_, q, rfl⟩
              · rw [List.getElem?_set_ne w] at hz; exact ⟨z, hz, oz⟩
            obtain ⟨z1, a1, o1⟩ := get ha oa
            obtain ⟨z2, a2, o2⟩ := get hb ob
            exact h2.ds a b z1 z2 z a1 a2 o1 o2 pa pb
        have xx : Ext R ps H2 ps H' := ⟨⟨[], rfl, fun y hy => absurd hy List.not_mem_nil⟩, fun y u e1 n1 m1 k1 => gg.2 y u e1 (by rw [wth_D]; exact n1) fun w => (wth_h.mp w).elim k1 m1⟩
        exact e.nx _ hpr ps σ H' st ((Ext.gv hs.ow g).trans h2.j xx)
      · rw [if_neg l] at pt; exact pt.elim
    | _ => rw [q] at hA; exact hA.elim
def outI (c : Nat) : Out → Prog (List (List Nat) × List T)
  | .nx (.self c' ns ts :: _) => if c' = c then .ret (ns, ts) else .fail
  | _ => .fail
def runI (n : Nat) (mb : MS) (c : Nat) (ns0 : List (List Nat)) (ts0 args : List T) : Prog (List (List Nat) × List T) := (mb (.self c ns0 ts0 :: (args.map Slot.sh ++ List.replicate (n - (args.length + 1)) Slot.no))).bind (outI c)
theorem ss_runI {uu : TS} {mb : MS} {N : List Str} {n : Nat} {cs : List Nat} {Q : VK} {E' : XK} (ss : SS C E uu mb) (h : spI C n cs (runI N.length mb) vs H Q E') (hn : n ≤ N.length) : uu { nx := fun _ H' => Q .non H', rt := Q } (L2.start N vs) H := by
  obtain ⟨R, us, ts0, x, dx, c, fs0, ns0, ws, rfl, hl, hc, hx, off, j, n0, r0, r1, al⟩ := h
  have lw : ws.length = us.length := Rps.len r1
  have base := slots0 (C := C) (R := R.add x) (H := H) r1 (N.length - 1) (by simp only [List.length_cons] at hl; omega) ⟨j, by rw [hx]; exact fun z => nomatch z⟩
  have es : L2.start N (V.ref x :: ws) = some (.ref x) :: (ws.map some ++ List.replicate (N.length - 1 - ws.length) none) := by
    unfold L2.start
    simp only [List.map_cons, List.length_cons, List.cons_append]
    congr 3
    omega
  have er : (us.map Slot.sh ++ List.replicate (N.length - 1 - us.length) Slot.no) = (us.map Slot.sh ++ List.replicate (N.length - (us.length + 1)) Slot.no) := by
    congr 2
    omega
  rw [er] at base
  have j1 : (R.add x).J H := ⟨j, by rw [hx]; exact fun z => nomatch z⟩
  have st : StOk C R (some x) H [x] (.self c ns0 ts0 :: (us.map Slot.sh ++ List.replicate (N.length - (us.length + 1)) Slot.no)) (L2.start N (V.ref x :: ws)) H := by
    rw [es]
    refine ⟨⟨off, True.intro⟩, fun p hp => .inr (by rw [List.mem_singleton.mp hp]), fun y o e _ _ _ => e, fun y _ => rfl, j1, fun p hp xs => by rw [List.mem_singleton.mp hp, hx]; exact (fun z => nomatch z), by rw [List.length_cons, List.length_cons, base.len], fun i s o a b => ?_, fun a b s s' p ha hb oa ob pa pb => ?_⟩
    · cases i with
      | zero => cases a; cases b; exact ⟨List.mem_cons_self, rfl, dx, fs0, hx, n0, r0⟩
      | succ i =>
        have k := base.sl i s o (by simpa using a) (by simpa using b)
        cases s with
        | no => exact True.intro
        | sh t => cases o with
          | none => exact k.elim
          | some v => exact k
        | _ =>
          have := List.mem_of_getElem? (show (us.map Slot.sh ++ List.replicate (N.length - (us.length + 1)) Slot.no)[i]? = some _ by simpa using a)
          rcases List.mem_append.mp this with z | z
          · obtain ⟨t, _, w⟩ := List.mem_map.mp z; cases w
          · cases (List.mem_replicate.mp z).2
    · have get : ∀ {k : Nat} {z : Slot}, (Slot.self c ns0 ts0 :: (us.map Slot.sh ++ List.replicate (N.length - (us.length + 1)) Slot.no))[k]? = some z → isOwn z = true → k = 0 := fun {k z} e o => by
        cases k with
        | zero => rfl
        | succ k =>
          have := List.mem_of_getElem? (show (us.map Slot.sh ++ List.replicate (N.length - (us.length + 1)) Slot.no)[k]? = some z by simpa using e)
          rcases List.mem_append.mp this with w | w
          · obtain ⟨t, _, rfl⟩ := List.mem_map.mp w; cases o
          · rw [(List.mem_replicate.mp w).2] at o; cases o
      rw [get ha oa, get hb ob]
  refine ss R (some x) H [x] _ _ H (fun o => (outI c o).All _ fun _ _ _ => False) (fun _ _ _ => False) _ st (fun c ns ts d H' _ _ f => f.elim) (all_bind.mp al) ⟨fun ρ p ps σ H' s x' => ?_, fun ρ p => p.elim, fun ρ p => p.elim, fun t p v H' j' g k' rt => p.elim⟩
  cases ρ with
  | nil => exact p.elim
  | cons s0 ρ' =>
    cases s0 with
    | self c' ns ts =>
      obtain ⟨y, hv, hm, h0, dx', fs, hy, hn', hr⟩ := own_at s (i := 0) (s := .self c' ns ts) rfl rfl
      cases h0
      by_cases ec : c' = c
      · have p : ((if c' = c then .ret (ns, ts) else .fail : Prog (List (List Nat) × List T))).All _ (fun _ _ _ => False) := p
        rw [if_pos ec] at p
        subst ec
        obtain ⟨⟨qs, e1, e2⟩, _⟩ := x'
        subst e1
        have offs : ∀ z, z ∈ (qs ++ [x]) → z ∉ R.D ∧ z ∉ R.h := fun z hz => s.ow.off hz
        have r2 : Reps C (wth R [x]) ts (fs.map (·.2)) H' := reps_less (fun z hz => List.mem_append_right _ hz) s.pres offs hr
        refine p H' dx' fs ⟨⟨s.jr, by rw [hy]; exact fun z => nomatch z⟩, fun z u e n m => s.gr z u e n (fun w => m (List.mem_cons_of_mem _ w)) fun w => m ?_⟩ s.kp hy hn' r2
        cases w; exact List.mem_cons_self
      · have p : ((if c' = c then .ret (ns, ts) else .fail : Prog (List (List Nat) × List T))).All _ (fun _ _ _ => False) := p
        rw [if_neg ec] at p
        exact p.elim
    | _ => exact p.elim
end
end Vi

/-! Operations on values. -/
namespace Vi
open PySem PySem.Spec PyProof.Rows L2 Fk
theorem opr_or {X : Cx} {f : Value → Value → Sem Value} {r r' : R2} (h : OpR X f r) (h' : OpR X f r') : OpR X f (fun x y H Q => r x y H Q ∨ r' x y H Q) := fun pins s σ H x y v u Q I rx ry q => q.elim (h pins s σ H x y v u Q I rx ry) (h' pins s σ H x y v u Q I rx ry)
abbrev rSum (r r' : R2) : R2 := fun x y H Q => r x y H Q ∨ r' x y H Q
section
variable {C : VC} {R : Res} {H H' : Hp} {t : T} {v x y : V} {ts us : List T} {vs : List V} {r r' : R2} {f f' : T → T → Option T}
theorem ro_left (h : RO C r f) : RO C (rSum r r') f := fun R x y tx ty t H j rx ry e Q k => .inl (h R x y tx ty t H j rx ry e Q k)
theorem ro_right (h : RO C r' f) : RO C (rSum r r') f := fun R x y tx ty t H j rx ry e Q k => .inr (h R x y tx ty t H j rx ry e Q k)
/-- by one, and where that is not told by the other -/
def orT (f f' : T → T → Option T) : T → T → Option T := fun x y => match f x y with
  | some t => some t
  | none => f' x y
theorem ro_or (h : RO C r f) (h' : RO C r' f') : RO C (rSum r r') (orT f f') := fun R x y tx ty t H j rx ry e Q k => by
  unfold orT at e
  cases q : f tx ty with
  | some u => rw [q] at e; cases e; exact .inl (h R x y tx ty _ H j rx ry q Q k)
  | none => rw [q] at e; exact .inr (h' R x y tx ty t H j rx ry e Q k)
/-! ### ints -/
def iiT (c : Int → Int → Bool) (g : Int → Int → T) : T → T → Option T
  | .int i, .int j => if c i j = true then some (g i j) else none
  | _, _ => none
theorem ro_ii {c : Int → Int → Bool} {D : Int → Int → Prop} {g : Int → Int → T} {g' : Int → Int → V} (hc : ∀ i j, c i j = true → D i j) (hg : ∀ i j R H, Rep C R (g i j) (g' i j) H) : RO C (rI D g') (iiT c g) := fun R x y tx ty t H j rx ry e Q k => by
  cases tx with
  | int i => cases ty with
    | int n =>
      cases rx; cases ry
      by_cases q : c i n = true
      · simp only [iiT, if_pos q] at e
        cases e
        exact ⟨i, n, rfl, rfl, hc i n q, k _ H (Gv.refl j) (hg i n R H)⟩
      · simp only [iiT, if_neg q] at e; cases e
    | _ => exact nomatch e
  | _ => exact nomatch e
theorem ro_i0 {g : Int → Int → T} {g' : Int → Int → V} (hg : ∀ i j R H, Rep C R (g i j) (g' i j) H) : RO C (rI0 g') (iiT (fun _ _ => true) g) := fun R x y tx ty t H j rx ry e Q k => by
  cases tx with
  | int i => cases ty with
    | int n =>
      cases rx; cases ry
      cases e
      exact ⟨i, n, rfl, rfl, k _ H (Gv.refl j) (hg i n R H)⟩
    | _ => exact nomatch e
  | _ => exact nomatch e
def addI := iiT (fun _ _ => true) fun i j => .int (i + j)
def subT := iiT (fun _ _ => true) fun i j => .int (i - j)
def mulT := iiT (fun i j => decide (-(2 ^ 64) < i) && decide (i < 2 ^ 64)) fun i j => .int (i * j)
def modT := iiT (fun _ j => decide (0 < j)) fun i j => .int (i % j)
def fdivT := iiT (fun _ j => decide (0 < j) && decide (j < 1073741824)) fun i j => .int (i / j)
theorem ro_addI : RO C (rI0 fun i j => .int (i + j)) addI := ro_i0 fun _ _ _ _ => .int _
theorem ro_sub : RO C (rI0 fun i j => .int (i - j)) subT := ro_i0 fun _ _ _ _ => .int _
theorem ro_mul : RO C (rI CMul fun i j => .int (i * j)) mulT := ro_ii (fun i j h => by
  obtain ⟨a, b⟩ := Bool.and_eq_true_iff.mp h
  exact .inl ⟨of_decide_eq_true a, of_decide_eq_true b⟩) fun _ _ _ _ => .int _
theorem ro_mod : RO C (rI (fun _ j => 0 < j) fun i j => .int (i % j)) modT := ro_ii (fun i j h => of_decide_eq_true h) fun _ _ _ _ => .int _
theorem ro_fdiv : RO C (rI CDiv fun i j => .int (i / j)) fdivT := ro_ii (fun i j h => by
  obtain ⟨a, b⟩ := Bool.and_eq_true_iff.mp h
  exact ⟨of_decide_eq_true a, of_decide_eq_true b⟩) fun _ _ _ _ => .int _
/-! ### + -/
def addS : T → T → Option T
  | .str a, .str b => if a.length + b.length ≤ 1000000 then some (.str (a ++ b)) else none
  | _, _ => none
def addL : T → T → Option T
  | .lst a, .lst b => if a.length + b.length ≤ 1000000 then some (.lst (a ++ b)) else none
  | _, _ => none
def addU : T → T → Option T
  | .tup a, .tup b => if a.length + b.length ≤ 1000000 then some (.tup (a ++ b)) else none
  | _, _ => none
theorem zs_app (a b : List Nat) : zs a ++ zs b = zs (a ++ b) := by
  show Str.mk ((zs a).cps ++ (zs b).cps) = _
  simp [zs]
theorem zs_len (a : List Nat) : (zs a).length = a.length := by simp [zs, Str.length]
abbrev rAddS : R2 := fun x y H Q => ∃ i j, x = .str i ∧ y = .str j ∧ i.length + j.length ≤ sizeLine ∧ Q (.str (i ++ j)) H
theorem ro_addS : RO C rAddS addS := fun R x y tx ty t H j rx ry e Q k => by
  cases tx with
  | str a => cases ty with
    | str b =>
      cases rx; cases ry
      by_cases l : a.length + b.length ≤ 1000000
      · simp only [addS, if_pos l] at e; cases e
        refine ⟨_, _, rfl, rfl, by rw [zs_len, zs_len]; exact big l, ?_⟩
        rw [zs_app]
        exact k _ H (Gv.refl j) (.str _)
      · simp only [addS, if_neg l] at e; cases e
    | _ => exact nomatch e
  | _ => exact nomatch e
theorem ro_addL : RO C rCat addL := fun R x y tx ty t H j rx ry e Q k => by
  cases tx with
  | lst a => cases ty with
    | lst b =>
      cases rx with
      | @lst p xs _ ha hr => cases ry with
        | @lst q ys _ hb hr2 =>
          by_cases l : a.length + b.length ≤ 1000000
          · simp only [addL, if_pos l] at e; cases e
            refine ⟨p, q, xs, ys, rfl, rfl, ha H (Gr.refl j), hb H (Gr.refl j), by rw [Rps.len hr, Rps.len hr2]; exact big l, fun n hn => ?_⟩
            have g := Gv.new (o := .lst (xs ++ ys)) j hn
            have r1 : Reps C R a xs H := hr
            have r2 : Reps C R b ys H := hr2
            exact k _ _ g (rep_lst upd_same (Fk.off j hn) (Rps.app (r1.gr g.1) (r2.gr g.1)))
          · simp only [addL, if_neg l] at e; cases e
    | _ => exact nomatch e
  | _ => exact nomatch e
theorem ro_addU : RO C (rCatA C.K) addU := fun R x y tx ty t H j rx ry e Q k => by
  cases tx with
  | tup a => cases ty with
    | tup b =>
      cases rx with
      | @tup p xs _ ha hr => cases ry with
        | @tup q ys _ hb hr2 =>
          by_cases l : a.length + b.length ≤ 1000000
          · simp only [addU, if_pos l] at e; cases e
            have h1 := ha H (Gr.refl j)
            have h2 := hb H (Gr.refl j)
            have r1 : Reps C R a xs H := hr
            have r2 : Reps C R b ys H := hr2
            refine ⟨p, q, xs, ys, rfl, rfl, .inl (.inl h1), .inl (.inl h2), by rw [Rps.len hr, Rps.len hr2]; exact big l, fun e0 => ?_, fun _ e0 => ?_, fun _ _ n hn => ?_⟩
            · subst e0
              cases r1
              exact k _ H (Gv.refl j) (.tup hb hr2)
            · subst e0
              cases r2
              rw [List.append_nil] at k
              exact k _ H (Gv.refl j) (.tup ha hr)
            · have g := Gv.new (o := .tup (xs ++ ys)) j hn
              exact k _ _ g (rep_tup upd_same (Fk.off j hn) (Rps.app (r1.gr g.1) (r2.gr g.1)))
          · simp only [addU, if_neg l] at e; cases e
    | _ => exact nomatch e
  | _ => exact nomatch e
abbrev rAddAny (K : PySem.W.Frag) : R2 := rSum (rI0 fun i j => .int (i + j)) (rSum rAddS (rSum rCat (rCatA K)))
theorem op_addAny {X : Cx} : OpR X (binaryOp .Add) (rAddAny X.K) := opr_or op_add (opr_or op_add_str (opr_or op_cat op_catA))
def addT := orT addI (orT addS (orT addL addU))
theorem ro_add : RO C (rAddAny C.K) addT := ro_or ro_addI (ro_or ro_addS (ro_or ro_addL ro_addU))
/-! ### comparing -/
def cmpI (p : Int → Int → Bool) := iiT (fun _ _ => true) fun i j => .bl (p i j)
theorem ro_cmp (p : Int → Int → Bool) : RO C (rI0 fun i j => .bl (p i j)) (cmpI p) := ro_i0 fun _ _ _ _ => .bl _
/-- texts, by their signs -/
def ltL : List Nat → List Nat → Bool
  | [], [] => false
  | [], _ :: _ => true
  | _ :: _, [] => false
  | a :: as, b :: bs => if a < b then true else if b < a then false else ltL as bs
theorem ltL_iff : ∀ {a b : List Nat}, decide (a < b) = ltL a b
  | [], [] => by simp [ltL]
  | [], _ :: _ => by simp [ltL]
  | _ :: _, [] => by simp [ltL]
  | a :: as, b :: bs => by
    unfold ltL
    by_cases h : a < b
    · rw [if_pos h]; exact decide_eq_true (List.Lex.rel h)
    · rw [if_neg h]
      by_cases h2 : b < a
      · rw [if_pos h2]
        refine decide_eq_false fun z => ?_
        rcases List.cons_lt_cons_iff.mp z with q | q
        · exact h q
        · omega
      · rw [if_neg h2, ← ltL_iff (a := as) (b := bs)]
        have e : a = b := by omega
        subst e
        refine decide_eq_decide.mpr ?_
        rw [List.cons_lt_cons_iff]
        constructor
        · rintro (q | q)
          · omega
          · exact q.2
        · exact fun q => .inr ⟨rfl, q⟩
def ltS (neg sw : Bool) : T → T → Option T
  | .str a, .str b => some (.bl (xor neg (if sw then ltL b a else ltL a b)))
  | _, _ => none
theorem zs_cps (a : List Nat) : (zs a).cps.toList = a := by simp [zs]
theorem ro_ltS : RO C (fun x y H Q => ∃ i j, x = .str i ∧ y = .str j ∧ Q (.bl (decide (i.cps.toList < j.cps.toList))) H) (ltS false false) := fun R x y tx ty t H j rx ry e Q k => by
  cases tx with
  | str a => cases ty with
    | str b =>
      cases rx; cases ry; cases e
      refine ⟨_, _, rfl, rfl, ?_⟩
      rw [zs_cps, zs_cps, ltL_iff]
      exact k _ H (Gv.refl j) (by simp; exact .bl _)
    | _ => exact nomatch e
  | _ => exact nomatch e
theorem ro_leS : RO C (fun x y H Q => ∃ i j, x = .str i ∧ y = .str j ∧ Q (.bl (!decide (j.cps.toList < i.cps.toList))) H) (ltS true true) := fun R x y tx ty t H j rx ry e Q k => by
  cases tx with
  | str a => cases ty with
    | str b =>
      cases rx; cases ry; cases e
      refine ⟨_, _, rfl, rfl, ?_⟩
      rw [zs_cps, zs_cps, ltL_iff]
      exact k _ H (Gv.refl j) (by simp; exact .bl _)
    | _ => exact nomatch e
  | _ => exact nomatch e
abbrev rLtAny : R2 := rSum (rI0 fun i j => .bl (decide (i < j))) (fun x y H Q => ∃ i j, x = .str i ∧ y = .str j ∧ Q (.bl (decide (i.cps.toList < j.cps.toList))) H)
abbrev rLeAny : R2 := rSum (rI0 fun i j => .bl (decide (i ≤ j))) (fun x y H Q => ∃ i j, x = .str i ∧ y = .str j ∧ Q (.bl (!decide (j.cps.toList < i.cps.toList))) H)
theorem op_ltAny {X : Cx} : OpR X (compareOp .Lt) rLtAny := opr_or op_lt op_lt_str
theorem op_leAny {X : Cx} : OpR X (compareOp .LtE) rLeAny := opr_or op_le op_le_str
def ltT := orT (cmpI fun i j => decide (i < j)) (ltS false false)
def leT := orT (cmpI fun i j => decide (i ≤ j)) (ltS true true)
def gtT := cmpI fun i j => decide (j < i)
def geT := cmpI fun i j => decide (j ≤ i)
theorem ro_lt : RO C rLtAny ltT := ro_or (ro_cmp _) ro_ltS
theorem ro_le : RO C rLeAny leT := ro_or (ro_cmp _) ro_leS
theorem ro_gt : RO C (rI0 fun i j => .bl (decide (j < i))) gtT := ro_cmp fun i j => decide (j < i)
theorem ro_ge : RO C (rI0 fun i j => .bl (decide (j ≤ i))) geT := ro_cmp fun i j => decide (j ≤ i)
end
/-! ### == of flat things and of data -/
def eqF (neg : Bool) : T → T → Option T
  | .int i, .int j => some (.bl (xor neg (decide (i = j))))
  | .str a, .str b => some (.bl (xor neg (decide (a = b))))
  | .bl a, .bl b => some (.bl (xor neg (decide (a = b))))
  | .non, .non => some (.bl (!neg))
  | .non, .int _ => some (.bl neg) | .int _, .non => some (.bl neg) | .non, .str _ => some (.bl neg) | .str _, .non => some (.bl neg) | .non, .bl _ => some (.bl neg) | .bl _, .non => some (.bl neg)
  | .int _, .str _ => some (.bl neg) | .str _, .int _ => some (.bl neg) | .bl _, .str _ => some (.bl neg) | .str _, .bl _ => some (.bl neg)
  | _, _ => none
mutual
def toPD : T → Option PyData
  | .non => some .none
  | .bl b => some (.bool b)
  | .int i => some (.int i)
  | .str z => some (.str (zs z))
  | .lst ts => (toPDs ts).map PyData.list
  | .tup ts => (toPDs ts).map PyData.tuple
  | .kt ts => (toPDs ts).map PyData.tuple
  | _ => none
def toPDs : List T → Option (List PyData)
  | [] => some []
  | t :: ts => (toPD t).bind fun d => (toPDs ts).map (d :: ·)
end
mutual
/-- fit to be compared: no deeper than n -/
def okD : Nat → T → Bool
  | _, .non => true
  | _, .bl _ => true
  | _, .int _ => true
  | _, .str z => z.all fun c => decide (c < 1114112)
  | n + 1, .lst ts => okDs n ts
  | n + 1, .tup ts => okDs n ts
  | n + 1, .kt ts => okDs n ts
  | _, _ => false
def okDs : Nat → List T → Bool
  | _, [] => true
  | n, t :: ts => okD n t && okDs n ts
end
mutual
def eqD : T → T → Bool
  | .non, .non => true
  | .bl a, .bl b => a == b
  | .bl a, .int j => (if a then 1 else 0) == j
  | .int i, .bl b => i == (if b then 1 else 0)
  | .int i, .int j => i == j
  | .str x, .str y => decide (x = y)
  | .lst xs, .lst ys => eqDs xs ys
  | .tup xs, .tup ys => eqDs xs ys
  | .kt xs, .tup ys => eqDs xs ys
  | .tup xs, .kt ys => eqDs xs ys
  | .kt xs, .kt ys => eqDs xs ys
  | _, _ => false
def eqDs : List T → List T → Bool
  | [], [] => true
  | x :: xs, y :: ys => eqD x y && eqDs xs ys
  | _, _ => false
end
end Vi

/-! == of values; items, slices. -/
namespace Vi
open PySem PySem.Spec PyProof.Rows L2 Fk
section
variable {C : VC} {R : Res} {H H' : Hp} {t : T} {v x y : V} {ts us : List T} {vs : List V} {r r' : R2} {f f' : T → T → Option T} {dl : V → Hp → Prop} {L : (Hp → Prop) → Prop}
mutual
theorem rp_dp (hL : ∀ φ, L φ → φ H) : ∀ {t : T} {v : V} {d : PyData}, toPD t = some d → Rp C dl L v t → Dp C.K H v d
  | .non, _, _, e, r => by cases e; cases r; exact .non
  | .bl _, _, _, e, r => by cases e; cases r; exact .bl _
  | .int _, _, _, e, r => by cases e; cases r; exact .int _
  | .str _, _, _, e, r => by cases e; cases r; exact .str _
  | .lst ts, _, _, e, r => by
    obtain ⟨ds, e1, rfl⟩ := Option.map_eq_some_iff.mp (show (toPDs ts).map PyData.list = some _ from e)
    cases r with | lst h1 h2 => exact .lst (.inl (.inl (hL _ h1))) (rps_dp hL e1 h2)
  | .tup ts, _, _, e, r => by
    obtain ⟨ds, e1, rfl⟩ := Option.map_eq_some_iff.mp (show (toPDs ts).map PyData.tuple = some _ from e)
    cases r with | tup h1 h2 => exact .tup (.inl (.inl (hL _ h1))) (rps_dp hL e1 h2)
  | .kt ts, _, _, e, r => by
    obtain ⟨ds, e1, rfl⟩ := Option.map_eq_some_iff.mp (show (toPDs ts).map PyData.tuple = some _ from e)
    cases r with | kt h1 h2 => exact .tup (h1 H) (rps_dp hL e1 h2)
  | .dK _ _, _, _, e, _ => nomatch e
  | .dT _ _, _, _, e, _ => nomatch e
  | .ins _ _ _, _, _, e, _ => nomatch e
  | .ty _, _, _, e, _ => nomatch e
  | .cl _, _, _, e, _ => nomatch e
  | .dl, _, _, e, _ => nomatch e
theorem rps_dp (hL : ∀ φ, L φ → φ H) : ∀ {ts : List T} {vs : List V} {ds : List PyData}, toPDs ts = some ds → Rps C dl L vs ts → DpAll C.K H vs ds
  | [], _, _, e, r => by cases e; cases r; exact .nil
  | t :: ts, _, _, e, r => by
    obtain ⟨d, e1, e2⟩ := Option.bind_eq_some_iff.mp (show (toPD t).bind (fun d => (toPDs ts).map (d :: ·)) = some _ from e)
    obtain ⟨ds, e3, rfl⟩ := Option.map_eq_some_iff.mp e2
    cases r with | cons h1 h2 => exact .cons (rp_dp hL e1 h1) (rps_dp hL e3 h2)
end
mutual
theorem okD_ok : ∀ {n : Nat} {t : T}, okD n t = true → ∃ d, toPD t = some d ∧ d.canLay0 = true ∧ d.depth ≤ n
  | n, .non, _ => ⟨.none, rfl, rfl, Nat.zero_le _⟩
  | n, .bl b, _ => ⟨.bool b, rfl, rfl, Nat.zero_le _⟩
  | n, .int i, _ => ⟨.int i, rfl, rfl, Nat.zero_le _⟩
  | n, .str z, h => ⟨.str (zs z), rfl, by
      have h : (z.all fun c => decide (c < 1114112)) = true := by cases n <;> exact h
      show ((zs z).cps.all fun c => decide (c < 0x110000)) = true
      simpa [zs] using h, Nat.zero_le _⟩
  | n + 1, .lst ts, h => by
    obtain ⟨ds, e, a, b⟩ := okDs_ok (show okDs n ts = true from h)
    refine ⟨.list ds, by show (toPDs ts).map PyData.list = _; rw [e]; rfl, a, ?_⟩
    simp only [PyData.depth]; omega
  | n + 1, .tup ts, h => by
    obtain ⟨ds, e, a, b⟩ := okDs_ok (show okDs n ts = true from h)
    refine ⟨.tuple ds, by show (toPDs ts).map PyData.tuple = _; rw [e]; rfl, a, ?_⟩
    simp only [PyData.depth]; omega
  | n + 1, .kt ts, h => by
    obtain ⟨ds, e, a, b⟩ := okDs_ok (show okDs n ts = true from h)
    refine ⟨.tuple ds, by show (toPDs ts).map PyData.tuple = _; rw [e]; rfl, a, ?_⟩
    simp only [PyData.depth]; omega
  | 0, .lst _, h => nomatch h
  | 0, .tup _, h => nomatch h
  | 0, .kt _, h => nomatch h
  | n, .dK _ _, h => by cases n <;> exact nomatch h
  | n, .dT _ _, h => by cases n <;> exact nomatch h
  | n, .ins _ _ _, h => by cases n <;> exact nomatch h
  | n, .ty _, h => by cases n <;> exact nomatch h
  | n, .cl _, h => by cases n <;> exact nomatch h
  | n, .dl, h => by cases n <;> exact nomatch h
theorem okDs_ok : ∀ {n : Nat} {ts : List T}, okDs n ts = true → ∃ ds, toPDs ts = some ds ∧ PyData.canLayAll0 ds = true ∧ PyData.depthAll ds ≤ n
  | n, [], _ => ⟨[], rfl, rfl, Nat.zero_le _⟩
  | n, t :: ts, h => by
    obtain ⟨h1, h2⟩ := Bool.and_eq_true_iff.mp (show (okD n t && okDs n ts) = true from h)
    obtain ⟨d, e1, a1, b1⟩ := okD_ok h1
    obtain ⟨ds, e2, a2, b2⟩ := okDs_ok h2
    refine ⟨d :: ds, by show (toPD t).bind _ = _; rw [e1]; show (toPDs ts).map _ = _; rw [e2]; rfl, ?_, ?_⟩
    · show (PyData.canLay0 d && PyData.canLayAll0 ds) = true
      rw [a1, a2]; rfl
    · simp only [PyData.depthAll]; omega
end
theorem beq_zs {a b : List Nat} : (zs a == zs b) = decide (a = b) := by
  by_cases h : a = b
  · subst h; simp
  · rw [decide_eq_false h]
    exact beq_eq_false_iff_ne.mpr fun z => h (zs_inj z)
mutual
theorem eqD_eq : ∀ {a b : T} {d e : PyData}, toPD a = some d → toPD b = some e → eqD a b = PyData.eqv d e := by
  intro a b d e h1 h2
  cases a with
  | lst xs =>
    obtain ⟨ds, e1, rfl⟩ := Option.map_eq_some_iff.mp (show (toPDs xs).map PyData.list = some _ from h1)
    cases b with
    | lst ys =>
      obtain ⟨es, e2, rfl⟩ := Option.map_eq_some_iff.mp (show (toPDs ys).map PyData.list = some _ from h2)
      exact eqDs_eq e1 e2
    | tup ys => obtain ⟨es, e2, rfl⟩ := Option.map_eq_some_iff.mp (show (toPDs ys).map PyData.tuple = some _ from h2); rfl
    | kt ys => obtain ⟨es, e2, rfl⟩ := Option.map_eq_some_iff.mp (show (toPDs ys).map PyData.tuple = some _ from h2); rfl
    | _ => first | (cases h2; rfl) | (simp [toPD] at h2)
  | tup xs =>
    obtain ⟨ds, e1, rfl⟩ := Option.map_eq_some_iff.mp (show (toPDs xs).map PyData.tuple = some _ from h1)
    cases b with
    | tup ys =>
      obtain ⟨es, e2, rfl⟩ := Option.map_eq_some_iff.mp (show (toPDs ys).map PyData.tuple = some _ from h2)
      exact eqDs_eq e1 e2
    | kt ys =>
      obtain ⟨es, e2, rfl⟩ := Option.map_eq_some_iff.mp (show (toPDs ys).map PyData.tuple = some _ from h2)
      exact eqDs_eq e1 e2
    | lst ys => obtain ⟨es, e2, rfl⟩ := Option.map_eq_some_iff.mp (show (toPDs ys).map PyData.list = some _ from h2); rfl
    | _ => first | (cases h2; rfl) | (simp [toPD] at h2)
  | kt xs =>
    obtain ⟨ds, e1, rfl⟩ := Option.map_eq_some_iff.mp (show (toPDs xs).map PyData.tuple = some _ from h1)
    cases b with
    | tup ys =>
      obtain ⟨es, e2, rfl⟩ := Option.map_eq_some_iff.mp (show (toPDs ys).map PyData.tuple = some _ from h2)
      exact eqDs_eq e1 e2
    | kt ys =>
      obtain ⟨es, e2, rfl⟩ := Option.map_eq_some_iff.mp (show (toPDs ys).map PyData.tuple = some _ from h2)
      exact eqDs_eq e1 e2
    | lst ys => obtain ⟨es, e2, rfl⟩ := Option.map_eq_some_iff.mp (show (toPDs ys).map PyData.list = some _ from h2); rfl
    | _ => first | (cases h2; rfl) | (simp [toPD] at h2)
  | str x =>
    cases h1
    cases b with
    | str y => cases h2; exact beq_zs.symm
    | lst ys => obtain ⟨es, e2, rfl⟩ := Option.map_eq_some_iff.mp (show (toPDs ys).map PyData.list = some _ from h2); rfl
    | tup ys => obtain ⟨es, e2, rfl⟩ := Option.map_eq_some_iff.mp (show (toPDs ys).map PyData.tuple = some _ from h2); rfl
    | kt ys => obtain ⟨es, e2, rfl⟩ := Option.map_eq_some_iff.mp (show (toPDs ys).map PyData.tuple = some _ from h2); rfl
    | _ => first | (cases h2; rfl) | (simp [toPD] at h2)
  | non =>
    cases h1
    cases b with
    | lst ys => obtain ⟨es, e2, rfl⟩ := Option.map_eq_some_iff.mp (show (toPDs ys).map PyData.list = some _ from h2); rfl
    | tup ys => obtain ⟨es, e2, rfl⟩ := Option.map_eq_some_iff.mp (show (toPDs ys).map PyData.tuple = some _ from h2); rfl
    | kt ys => obtain ⟨es, e2, rfl⟩ := Option.map_eq_some_iff.mp (show (toPDs ys).map PyData.tuple = some _ from h2); rfl
    | _ => first | (cases h2; rfl) | (simp [toPD] at h2)
  | bl x =>
    cases h1
    cases b with
    | lst ys => obtain ⟨es, e2, rfl⟩ := Option.map_eq_some_iff.mp (show (toPDs ys).map PyData.list = some _ from h2); rfl
    | tup ys => obtain ⟨es, e2, rfl⟩ := Option.map_eq_some_iff.mp (show (toPDs ys).map PyData.tuple = some _ from h2); rfl
    | kt ys => obtain ⟨es, e2, rfl⟩ := Option.map_eq_some_iff.mp (show (toPDs ys).map PyData.tuple = some _ from h2); rfl
    | _ => first | (cases h2; rfl) | (simp [toPD] at h2)
  | int x =>
    cases h1
    cases b with
    | lst ys => obtain ⟨es, e2, rfl⟩ := Option.map_eq_some_iff.mp (show (toPDs ys).map PyData.list = some _ from h2); rfl
    | tup ys => obtain ⟨es, e2, rfl⟩ := Option.map_eq_some_iff.mp (show (toPDs ys).map PyData.tuple = some _ from h2); rfl
    | kt ys => obtain ⟨es, e2, rfl⟩ := Option.map_eq_some_iff.mp (show (toPDs ys).map PyData.tuple = some _ from h2); rfl
    | _ => first | (cases h2; rfl) | (simp [toPD] at h2)
  | _ => simp [toPD] at h1
theorem eqDs_eq : ∀ {a b : List T} {d e : List PyData}, toPDs a = some d → toPDs b = some e → eqDs a b = PyData.eqvAll d e
  | [], [], _, _, h1, h2 => by cases h1; cases h2; rfl
  | [], y :: ys, _, _, h1, h2 => by
    obtain ⟨d, e1, e2⟩ := Option.bind_eq_some_iff.mp (show (toPD y).bind (fun d => (toPDs ys).map (d :: ·)) = some _ from h2)
    obtain ⟨ds, e3, rfl⟩ := Option.map_eq_some_iff.mp e2
    cases h1; rfl
  | x :: xs, [], _, _, h1, h2 => by
    obtain ⟨d, e1, e2⟩ := Option.bind_eq_some_iff.mp (show (toPD x).bind (fun d => (toPDs xs).map (d :: ·)) = some _ from h1)
    obtain ⟨ds, e3, rfl⟩ := Option.map_eq_some_iff.mp e2
    cases h2; rfl
  | x :: xs, y :: ys, _, _, h1, h2 => by
    obtain ⟨d, e1, e2⟩ := Option.bind_eq_some_iff.mp (show (toPD x).bind (fun d => (toPDs xs).map (d :: ·)) = some _ from h1)
    obtain ⟨ds, e3, rfl⟩ := Option.map_eq_some_iff.mp e2
    obtain ⟨d', e1', e2'⟩ := Option.bind_eq_some_iff.mp (show (toPD y).bind (fun d => (toPDs ys).map (d :: ·)) = some _ from h2)
    obtain ⟨ds', e3', rfl⟩ := Option.map_eq_some_iff.mp e2'
    show (eqD x y && eqDs xs ys) = (PyData.eqv d d' && PyData.eqvAll ds ds')
    rw [eqD_eq e1 e1', eqDs_eq e3 e3']
end
end
end Vi

/-! ==, in, items, slices, built-ins. -/
namespace Vi
open PySem PySem.Spec PyProof.Rows L2 Fk
section
variable {C : VC} {R : Res} {H H' : Hp} {t : T} {v x y : V} {ts us : List T} {vs : List V} {r r' : R2} {f f' : T → T → Option T} {dl : V → Hp → Prop} {L : (Hp → Prop) → Prop}
theorem rep_b {a b : Bool} (e : a = b) : Rep C R (.bl a) (.bl b) H := e ▸ rep_bl
theorem dec_zs {a b : List Nat} : decide (V.str (zs a) = V.str (zs b)) = decide (a = b) := decide_eq_decide.mpr ⟨fun h => zs_inj (V.str.inj h), fun h => by rw [h]⟩
theorem dec_int {a b : Int} : decide (V.int a = V.int b) = decide (a = b) := decide_eq_decide.mpr ⟨fun h => V.int.inj h, fun h => by rw [h]⟩
theorem dec_bl {a b : Bool} : decide (V.bl a = V.bl b) = decide (a = b) := decide_eq_decide.mpr ⟨fun h => V.bl.inj h, fun h => by rw [h]⟩
theorem ro_eqF : RO C rEq (eqF false) := fun R x y tx ty t H j rx ry e Q k => by
  cases tx <;> cases ty <;> first
    | (simp [eqF] at e; done)
    | (cases rx; cases ry; simp only [eqF, Option.some.injEq] at e; subst e; refine ⟨rfl, ?_⟩; first
        | (rw [dec_zs]; exact k _ H (Gv.refl j) (rep_b (by simp)))
        | (rw [dec_int]; exact k _ H (Gv.refl j) (rep_b (by simp)))
        | (rw [dec_bl]; exact k _ H (Gv.refl j) (rep_b (by simp)))
        | exact k _ H (Gv.refl j) (rep_b (by simp)))
theorem ro_neF : RO C rNe (eqF true) := fun R x y tx ty t H j rx ry e Q k => by
  cases tx <;> cases ty <;> first
    | (simp [eqF] at e; done)
    | (cases rx; cases ry; simp only [eqF, Option.some.injEq] at e; subst e; refine ⟨rfl, ?_⟩; first
        | (rw [dec_zs]; exact k _ H (Gv.refl j) (rep_b (by simp)))
        | (rw [dec_int]; exact k _ H (Gv.refl j) (rep_b (by simp)))
        | (rw [dec_bl]; exact k _ H (Gv.refl j) (rep_b (by simp)))
        | exact k _ H (Gv.refl j) (rep_b (by simp)))
def eqA (neg : Bool) (a b : T) : Option T := if okD 60 a = true ∧ okD 60 b = true then some (.bl (xor neg (eqD a b))) else none
theorem shaped_of {d : PyData} (a : d.canLay0 = true) (b : d.depth ≤ 60) : SeqAt.shaped d = true := by
  show (d.canLay0 && decide (d.depth ≤ 64)) = true
  rw [a, decide_eq_true (by omega)]; rfl
theorem ro_eqA : RO C (rEqD C.K) (eqA false) := fun R x y tx ty t H j rx ry e Q k => by
  unfold eqA at e
  by_cases q : okD 60 tx = true ∧ okD 60 ty = true
  · rw [if_pos q] at e; cases e
    obtain ⟨d, e1, a1, b1⟩ := okD_ok q.1
    obtain ⟨d', e2, a2, b2⟩ := okD_ok q.2
    refine ⟨d, d', rp_dp (fun φ z => z H (Gr.refl j)) e1 rx, rp_dp (fun φ z => z H (Gr.refl j)) e2 ry, shaped_of a1 b1, shaped_of a2 b2, ?_⟩
    rw [← eqD_eq e1 e2]
    exact k _ H (Gv.refl j) (rep_b (by simp))
  · rw [if_neg q] at e; cases e
theorem ro_neA : RO C (rNeD C.K) (eqA true) := fun R x y tx ty t H j rx ry e Q k => by
  unfold eqA at e
  by_cases q : okD 60 tx = true ∧ okD 60 ty = true
  · rw [if_pos q] at e; cases e
    obtain ⟨d, e1, a1, b1⟩ := okD_ok q.1
    obtain ⟨d', e2, a2, b2⟩ := okD_ok q.2
    refine ⟨d, d', rp_dp (fun φ z => z H (Gr.refl j)) e1 rx, rp_dp (fun φ z => z H (Gr.refl j)) e2 ry, shaped_of a1 b1, shaped_of a2 b2, ?_⟩
    rw [← eqD_eq e1 e2]
    exact k _ H (Gv.refl j) (rep_b (by simp))
  · rw [if_neg q] at e; cases e
abbrev rEqAny (K : PySem.W.Frag) : R2 := rSum rEq (rEqD K)
abbrev rNeAny (K : PySem.W.Frag) : R2 := rSum rNe (rNeD K)
theorem op_eqAny {X : Cx} (hu : X.A.units + 64 < cLine) : OpR X (compareOp .Eq) (rEqAny X.K) := opr_or op_eq (op_eqD hu)
theorem op_neAny {X : Cx} (hu : X.A.units + 64 < cLine) : OpR X (compareOp .NotEq) (rNeAny X.K) := opr_or op_ne (op_neD hu)
def eqT := orT (eqF false) (eqA false)
def neT := orT (eqF true) (eqA true)
theorem ro_eq : RO C (rEqAny C.K) eqT := ro_or ro_eqF ro_eqA
theorem ro_ne : RO C (rNeAny C.K) neT := ro_or ro_neF ro_neA
/-! ### is None -/
def isN (neg : Bool) : T → T → Option T
  | .non, .non => some (.bl (!neg))
  | .dl, .non => none
  | _, .non => some (.bl neg)
  | _, _ => none
theorem ro_isN : RO C (fun x y H Q => y = .non ∧ Q (.bl (decide (x = .non))) H) (isN false) := fun R x y tx ty t H j rx ry e Q k => by
  cases ty <;> first | (simp [isN] at e; done) | skip
  cases ry
  refine ⟨rfl, ?_⟩
  cases tx <;> first | (simp [isN] at e; done) | (cases rx; simp only [isN, Option.some.injEq] at e; subst e; exact k _ H (Gv.refl j) (rep_b (by simp)))
theorem ro_notN : RO C (fun x y H Q => y = .non ∧ Q (.bl (!decide (x = .non))) H) (isN true) := fun R x y tx ty t H j rx ry e Q k => by
  cases ty <;> first | (simp [isN] at e; done) | skip
  cases ry
  refine ⟨rfl, ?_⟩
  cases tx <;> first | (simp [isN] at e; done) | (cases rx; simp only [isN, Option.some.injEq] at e; subst e; exact k _ H (Gv.refl j) (rep_b (by simp)))
/-! ### in -/
def flT : T → Bool
  | .non => true | .bl _ => true | .int _ => true | .str _ => true
  | _ => false
theorem flT_v (h : flT t = true) (r : Rp C dl L v t) : flatV v = true := by
  cases t <;> first | (simp [flT] at h; done) | (cases r; rfl)
theorem flT_all : ∀ {ts : List T} {vs : List V}, ts.all flT = true → Rps C dl L vs ts → vs.all flatV = true
  | [], _, _, r => by cases r; rfl
  | t :: ts, _, h, r => by
    cases r with
    | cons r1 r2 =>
      obtain ⟨h1, h2⟩ := Bool.and_eq_true_iff.mp (by simpa using h : (flT t && ts.all flT) = true)
      simp only [List.all_cons, flT_v h1 r1, flT_all h2 r2, Bool.and_self]
theorem eqV_D {a b : T} {v w : V} (ha : flT a = true) (hb : flT b = true) (ra : Rp C dl L v a) (rb : Rp C dl L w b) : eqV v w = eqD a b := by
  cases a <;> cases b <;> first
    | (simp [flT] at ha; done)
    | (simp [flT] at hb; done)
    | (cases ra; cases rb; first | rfl | exact beq_zs)
def itemsT : T → Option (List T)
  | .lst ts => some ts
  | .tup ts => some ts
  | .kt ts => some ts
  | _ => none
def inF (neg : Bool) (x s : T) : Option T := (itemsT s).bind fun ts => if flT x = true ∧ ts.all flT = true then some (.bl (xor neg (ts.any fun y => eqD y x))) else none
theorem seq_at (j : R.J H) {s : T} (e : itemsT s = some ts) (r : Rep C R s v H) : ∃ p xs, v = .ref p ∧ (SqL C.K H p xs ∨ SqT C.K H p xs) ∧ Reps C R ts xs H := by
  cases s with
  | lst us => cases e; cases r with | lst h1 h2 => exact ⟨_, _, rfl, .inl (.inl (.inl (h1 H (Gr.refl j)))), h2⟩
  | tup us => cases e; cases r with | tup h1 h2 => exact ⟨_, _, rfl, .inr (.inl (.inl (h1 H (Gr.refl j)))), h2⟩
  | kt us => cases e; cases r with | kt h1 h2 => exact ⟨_, _, rfl, .inr (h1 H), h2⟩
  | _ => exact nomatch e
theorem any_V {a : T} {w : V} (ha : flT a = true) (ra : Rp C dl L w a) : ∀ {ts : List T} {vs : List V}, ts.all flT = true → Rps C dl L vs ts → inV w vs = ts.any fun y => eqD y a
  | [], _, _, r => by cases r; rfl
  | t :: ts, _, h, r => by
    cases r with
    | cons r1 r2 =>
      obtain ⟨h1, h2⟩ := Bool.and_eq_true_iff.mp (by simpa using h : (flT t && ts.all flT) = true)
      have ih := any_V ha ra h2 r2
      unfold inV at *
      rw [List.any_cons, List.any_cons, ih, eqV_D h1 ha r1 ra]
theorem ro_inF (neg : Bool) : RO C (rIn C.K neg) (inF neg) := fun R x y tx ty t H j rx ry e Q k => by
  obtain ⟨ts, e1, e2⟩ := Option.bind_eq_some_iff.mp (show (itemsT ty).bind _ = some t from e)
  by_cases q : flT tx = true ∧ ts.all flT = true
  · rw [if_pos q] at e2; cases e2
    obtain ⟨p, xs, rfl, hs, hr⟩ := seq_at j e1 ry
    refine ⟨p, xs, rfl, hs, flT_v q.1 rx, flT_all q.2 hr, ?_⟩
    have := any_V q.1 rx q.2 hr
    cases neg with
    | false => simp only [Bool.false_eq_true, if_false, this]; exact k _ H (Gv.refl j) (rep_b (by simp))
    | true => simp only [if_true, this]; exact k _ H (Gv.refl j) (rep_b (by simp))
  · rw [if_neg q] at e2; cases e2
/-! ### items -/
def ixT (s i : T) : Option T := match i with
  | .int n => match itemsT s with
    | some ts => atI ts n
    | none => match s with
      | .str z => if z.length ≤ 1000000 then (atI z n).map fun c => .str [c] else none
      | _ => none
  | _ => none
theorem reps_atI {n : Int} (h : Rps C dl L vs ts) (e : atI ts n = some t) : ∃ v, atI vs n = some v ∧ Rp C dl L v t := by
  obtain ⟨i, e1, e2⟩ := Option.bind_eq_some_iff.mp (show (ixN ts.length n).bind (fun j => ts[j]?) = some t from e)
  obtain ⟨v, hv, hr⟩ := Rps.get h e2
  refine ⟨v, ?_, hr⟩
  show (ixN vs.length n).bind (fun j => vs[j]?) = some v
  rw [Rps.len h, e1]
  exact hv
theorem ro_ix : RO C (rIx C.K) ixT := fun R x y tx ty t H j rx ry e Q k => by
  cases ty with
  | int n =>
    cases ry
    cases tx with
    | lst ts =>
      have e : atI ts n = some t := e
      cases rx with
      | lst h1 h2 =>
        obtain ⟨w, hw, rw_⟩ := reps_atI h2 e
        exact .inl ⟨_, _, n, w, rfl, rfl, .inl (.inl (h1 H (Gr.refl j))), hw, k w H (Gv.refl j) rw_⟩
    | tup ts =>
      have e : atI ts n = some t := e
      cases rx with
      | tup h1 h2 =>
        obtain ⟨w, hw, rw_⟩ := reps_atI h2 e
        exact .inr (.inl ⟨_, _, n, w, rfl, rfl, .inl (.inl (h1 H (Gr.refl j))), hw, k w H (Gv.refl j) rw_⟩)
    | kt ts =>
      have e : atI ts n = some t := e
      cases rx with
      | kt h1 h2 =>
        obtain ⟨w, hw, rw_⟩ := reps_atI h2 e
        exact .inr (.inl ⟨_, _, n, w, rfl, rfl, h1 H, hw, k w H (Gv.refl j) rw_⟩)
    | str z =>
      have e : (if z.length ≤ 1000000 then (atI z n).map (fun c => T.str [c]) else none) = some t := e
      cases rx
      by_cases l : z.length ≤ 1000000
      · rw [if_pos l] at e
        obtain ⟨c, hc, rfl⟩ := Option.map_eq_some_iff.mp e
        exact .inr (.inr ⟨zs z, n, c, rfl, rfl, by rw [zs_len]; exact big l, by rw [zs_cps]; exact hc, k _ H (Gv.refl j) (.str [c])⟩)
      · rw [if_neg l] at e; cases e
    | _ => exact nomatch e
  | _ => exact nomatch e
end
end Vi

/-! Slices, built-ins, texts. -/
namespace Vi
open PySem PySem.Spec PyProof.Rows L2 Fk
/-! ### slices -/
def toI : T → Option Int
  | .int i => some i
  | _ => none
def SO (C : VC) (E : XK) (to : TO) (m : M (Option Int)) : Prop := ∀ (R : Res) (σ : L2.St) (H : Hp) (ρ : Env) (Φ : Option Int → Prop) (Ψ : XP), SlE C R ρ σ H → XOk C E R Ψ H → (m ρ).All Φ Ψ → ∀ H1, Gr R H H1 → ∀ Q : Option Int → Hp → Prop, (∀ o H2, Gv R H1 H2 → Φ o → Q o H2) → to σ H1 Q
def vNoPart : M (Option Int) := fun _ => .ret none
def vPart (a : M T) : M (Option Int) := fun ρ => (a ρ).bind fun t => (opt (toI t)).bind fun i => .ret (some i)
def cutG {α : Type} (xs : List α) (lo hi : Option Int) : List α := (xs.drop (HT.sIx xs.length 0 lo)).take (HT.sIx xs.length xs.length hi - HT.sIx xs.length 0 lo)
def slT (t : T) (lo hi : Option Int) : Option T := match t with
  | .lst ts => some (.lst (cutG ts lo hi))
  | .tup ts => some (.tup (cutG ts lo hi))
  | .str z => if z.length ≤ 1000000 then some (.str (cutG z lo hi)) else none
  | _ => none
def vSl (a : M T) (lo hi : M (Option Int)) : M T := fun ρ => (a ρ).bind fun t => (lo ρ).bind fun l => (hi ρ).bind fun h => opt (slT t l h)
def rSlAny (K : PySem.W.Frag) : V → Option Int → Option Int → Hp → VK → Prop := fun x lo hi H Q => rSlL K x lo hi H Q ∨ (rSlA K x lo hi H Q ∨ rSlS x lo hi H Q)
theorem sl_any {X : Cx} : SlR X (rSlAny X.K) := sl_or sl_list (sl_or sl_tupA sl_str)
section
variable {C : VC} {E : XK} {R : Res} {H H' : Hp} {t : T} {v x y : V} {ts us : List T} {vs : List V} {dl : V → Hp → Prop} {L : (Hp → Prop) → Prop} {te ta : TE} {to tp : TO} {m a : M T} {lo hi : M (Option Int)}
theorem so_none : SO C E tNoPart vNoPart := fun R σ H ρ Φ Ψ hs hx hA H1 g Q k => k none H1 g.at hA
theorem so_part (h : SE C E te m) : SO C E (tPart te) (vPart m) := fun R σ H ρ Φ Ψ hs hx hA H1 g Q k => h R σ H ρ _ Ψ hs hx (all_bind.mp hA) H1 g _ fun v H2 g2 ⟨t, pt, rt⟩ => by
  obtain ⟨i, e, hi⟩ := all_opt.mp (all_bind.mp pt)
  cases t with
  | int n => cases e; cases rt; exact ⟨i, rfl, k _ H2 g2 hi⟩
  | _ => exact nomatch e
theorem reps_cut {l h : Option Int} (r : Rps C dl L vs ts) : Rps C dl L (cutV vs l h) (cutG ts l h) := by
  have e : cutV vs l h = cutG vs l h := rfl
  unfold cutG cutV
  rw [Rps.len r]
  exact Rps.take _ (Rps.drop _ r)
theorem se_sl (hr : SE C E te m) (h1 : SO C E to lo) (h2 : SO C E tp hi) : SE C E (tSl (rSlAny C.K) te to tp) (vSl m lo hi) := fun R σ H ρ Φ Ψ hs hx hA => fun H1 g Q k =>
  hr R σ H ρ _ Ψ hs hx (all_bind.mp hA) H1 g _ fun x H2 g2 ⟨t, pt, rt⟩ => h1 R σ H ρ _ Ψ hs hx (all_bind.mp pt) H2 (g.trans g2) _ fun l H3 g3 pl => h2 R σ H ρ _ Ψ hs hx (all_bind.mp pl) H3 (g.trans (g2.trans g3)) _ fun h H4 g4 ph => by
    obtain ⟨u, e, hu⟩ := all_opt.mp ph
    have r4 : Rep C R t x H4 := (rt.gr g3.1).gr g4.1
    have g24 := g2.trans (g3.trans g4)
    cases t with
    | lst ts =>
      cases e
      cases r4 with
      | @lst p xs _ hp hx' =>
        refine .inl ⟨p, xs, rfl, .inl (.inl (hp H4 (Gr.refl g4.1.1))), fun n hn => ?_⟩
        have gn := Gv.new (o := .lst (cutV xs l h)) g4.1.1 hn
        have r5 : Reps C R _ _ H4 := reps_cut (l := l) (h := h) hx'
        exact k _ _ (g24.trans gn) ⟨_, hu, rep_lst upd_same (Fk.off g4.1.1 hn) (r5.gr gn.1)⟩
    | tup ts =>
      cases e
      cases r4 with
      | @tup p xs _ hp hx' =>
        have hp4 := hp H4 (Gr.refl g4.1.1)
        have r5 : Reps C R (cutG ts l h) (cutV xs l h) H4 := reps_cut (l := l) (h := h) hx'
        refine .inr (.inl ⟨p, xs, rfl, .inl (.inl hp4), fun w => ?_, fun _ n hn => ?_⟩)
        · rw [cut_whole w] at r5
          exact k _ _ g24 ⟨_, hu, .tup hp r5⟩
        · have gn := Gv.new (o := .tup (cutV xs l h)) g4.1.1 hn
          exact k _ _ (g24.trans gn) ⟨_, hu, rep_tup upd_same (Fk.off g4.1.1 hn) (r5.gr gn.1)⟩
    | str z =>
      by_cases lz : z.length ≤ 1000000
      · simp only [slT, if_pos lz] at e; cases e
        cases r4
        refine .inr (.inr ⟨zs z, rfl, by rw [zs_len]; exact big lz, ?_⟩)
        have ec : cutS (zs z) l h = zs (cutG z l h) := by unfold cutS cutG; rw [zs_len, zs_cps]; rfl
        rw [ec]
        exact k _ _ g24 ⟨_, hu, .str _⟩
      · simp only [slT, if_neg lz] at e; cases e
    | _ => exact nomatch e
end
/-! ### built-ins -/
def lenT : List T → Option T
  | [.lst ts] => some (.int ts.length) | [.tup ts] => some (.int ts.length) | [.kt ts] => some (.int ts.length)
  | [.str z] => if z.length ≤ 1000000 then some (.int z.length) else none
  | [.dK ks _] => some (.int ks.length)
  | _ => none
def allT (f : List Bool → Bool) : List T → Option T
  | [.lst ts] => (ts.mapM toB).map fun bs => .bl (f bs)
  | _ => none
def sumT : List T → Option T
  | [.lst ts] => (ts.mapM toI).map fun ns => .int ns.sum
  | _ => none
def tupT : List T → Option T
  | [.lst ts] => some (.tup ts)
  | [.tup ts] => some (.tup ts)
  | _ => none
def lstT : List T → Option T
  | [.lst ts] => some (.lst ts)
  | [.tup ts] => some (.lst ts)
  | [.kt ts] => some (.lst ts)
  | _ => none
def intT : List T → Option T
  | [.int i] => some (.int i)
  | [.bl b] => some (.int (if b then 1 else 0))
  | _ => none
def absT : List T → Option T
  | [.int i] => some (.int (if i < 0 then -i else i))
  | _ => none
def kindOf : T → String
  | .non => "NoneType" | .bl _ => "bool" | .int _ => "int" | .str _ => "str" | .lst _ => "list" | .tup _ => "tuple" | .kt _ => "tuple" | .dK _ _ => "dict" | .dT _ _ => "dict"
  | _ => ""
/-- isinstance(x, one of the built-in classes) -/
def isiB : List T → Option T
  | [t, .ty n] => if kindOf t = "" then none else (kitB (kindOf t) n).map fun b => .bl b
  | _ => none
section
variable {C : VC} {E : XK} {R : Res} {H H' : Hp} {t : T} {v x y : V} {ts us : List T} {vs : List V} {dl : V → Hp → Prop} {L : (Hp → Prop) → Prop} {r r' : List V → Hp → VK → Prop} {f f' : List T → Option T}
def orC (f f' : List T → Option T) : List T → Option T := fun xs => match f xs with
  | some t => some t
  | none => f' xs
theorem rc_or (h : RC C r f) (h' : RC C r' f') : RC C (fun xs H Q => r xs H Q ∨ r' xs H Q) (orC f f') := fun R xs ts t H j rx e Q k => by
  unfold orC at e
  cases q : f ts with
  | some u => rw [q] at e; cases e; exact .inl (h R xs ts _ H j rx q Q k)
  | none => rw [q] at e; exact .inr (h' R xs ts t H j rx e Q k)
theorem reps1 {t : T} (h : Reps C R [t] vs H) : ∃ v, vs = [v] ∧ Rep C R t v H := by
  cases h with | cons h1 h2 => cases h2; exact ⟨_, rfl, h1⟩
theorem reps2 {t u : T} (h : Reps C R [t, u] vs H) : ∃ v w, vs = [v, w] ∧ Rep C R t v H ∧ Rep C R u w H := by
  cases h with | cons h1 h2 => cases h2 with | cons h2 h3 => cases h3; exact ⟨_, _, rfl, h1, h2⟩
abbrev rLenSeq (K : PySem.W.Frag) : List V → Hp → VK → Prop := fun xs H Q => ∃ p ys, xs = [.ref p] ∧ (SqL K H p ys ∨ SqT K H p ys) ∧ Q (.int ys.length) H
abbrev rLenStr : List V → Hp → VK → Prop := fun xs H Q => ∃ z, xs = [.str z] ∧ z.length ≤ sizeLine ∧ Q (.int z.length) H
abbrev rLenD : List V → Hp → VK → Prop := fun xs H Q => ∃ a kvs, xs = [V.ref a] ∧ H a = some (.dK kvs) ∧ Q (.int kvs.length) H
abbrev rLenAny (K : PySem.W.Frag) : List V → Hp → VK → Prop := fun xs H Q => rLenSeq K xs H Q ∨ rLenStr xs H Q
theorem call_lenAny {X : Cx} : CallR X (.builtin "len") (rLenAny X.K) := CallR.or call_len_seq call_len_str
def lenT' : List T → Option T
  | [.dK _ _] => none
  | ts => lenT ts
theorem rc_len : RC C (rLenAny C.K) lenT' := fun R xs ts t H j rx e Q k => by
  match ts, e, rx with
  | [.lst us], e, rx =>
    obtain ⟨v, rfl, r1⟩ := reps1 rx
    obtain ⟨p, ys, rfl, h1, h2⟩ := seq_at (s := .lst us) j rfl r1
    cases e
    exact .inl ⟨p, ys, rfl, h1, by rw [Rps.len h2]; exact k _ H (Gv.refl j) (.int _)⟩
  | [.tup us], e, rx =>
    obtain ⟨v, rfl, r1⟩ := reps1 rx
    obtain ⟨p, ys, rfl, h1, h2⟩ := seq_at (s := .tup us) j rfl r1
    cases e
    exact .inl ⟨p, ys, rfl, h1, by rw [Rps.len h2]; exact k _ H (Gv.refl j) (.int _)⟩
  | [.kt us], e, rx =>
    obtain ⟨v, rfl, r1⟩ := reps1 rx
    obtain ⟨p, ys, rfl, h1, h2⟩ := seq_at (s := .kt us) j rfl r1
    cases e
    exact .inl ⟨p, ys, rfl, h1, by rw [Rps.len h2]; exact k _ H (Gv.refl j) (.int _)⟩
  | [.str z], e, rx =>
    obtain ⟨v, rfl, r1⟩ := reps1 rx
    cases r1
    by_cases l : z.length ≤ 1000000
    · simp only [lenT', lenT, if_pos l] at e; cases e
      exact .inr ⟨zs z, rfl, by rw [zs_len]; exact big l, by rw [zs_len]; exact k _ H (Gv.refl j) (.int _)⟩
    · simp only [lenT', lenT, if_neg l] at e; cases e
  | [], e, _ => exact nomatch e
  | _ :: _ :: _, e, _ => simp [lenT', lenT] at e
  | [.non], e, _ => exact nomatch e
  | [.bl _], e, _ => exact nomatch e
  | [.int _], e, _ => exact nomatch e
  | [.dK _ _], e, _ => exact nomatch e
  | [.dT _ _], e, _ => exact nomatch e
  | [.ins _ _ _], e, _ => exact nomatch e
  | [.ty _], e, _ => exact nomatch e
  | [.cl _], e, _ => exact nomatch e
  | [.dl], e, _ => exact nomatch e
theorem bools_v : ∀ {ts : List T} {vs : List V} {bs : List Bool}, ts.mapM toB = some bs → Rps C dl L vs ts → vs = bs.map V.bl
  | [], _, bs, e, r => by cases r; simp at e; subst e; rfl
  | t :: ts, _, bs, e, r => by
    rw [List.mapM_cons] at e
    obtain ⟨b, e1, e2⟩ := Option.bind_eq_some_iff.mp e
    obtain ⟨cs, e3, e4⟩ := Option.bind_eq_some_iff.mp e2
    cases e4
    cases r with
    | cons r1 r2 =>
      cases t <;> first | (simp [toB] at e1; done) | skip
      cases e1; cases r1
      rw [bools_v e3 r2]; rfl
theorem ints_v : ∀ {ts : List T} {vs : List V} {bs : List Int}, ts.mapM toI = some bs → Rps C dl L vs ts → vs = bs.map V.int
  | [], _, bs, e, r => by cases r; simp at e; subst e; rfl
  | t :: ts, _, bs, e, r => by
    rw [List.mapM_cons] at e
    obtain ⟨b, e1, e2⟩ := Option.bind_eq_some_iff.mp e
    obtain ⟨cs, e3, e4⟩ := Option.bind_eq_some_iff.mp e2
    cases e4
    cases r with
    | cons r1 r2 =>
      cases t <;> first | (simp [toI] at e1; done) | skip
      cases e1; cases r1
      rw [ints_v e3 r2]; rfl
theorem lst1 {f : List T → Option T} {us : List T} (j : R.J H) (r : Reps C R [.lst us] vs H) : ∃ p ys, vs = [.ref p] ∧ H p = some (.lst ys) ∧ Reps C R us ys H := by
  obtain ⟨v, rfl, r1⟩ := reps1 r
  cases r1 with | lst h1 h2 => exact ⟨_, _, rfl, h1 H (Gr.refl j), h2⟩
theorem rc_all : RC C (rAll C.K) (allT fun bs => bs.all id) := fun R xs ts t H j rx e Q k => by
  unfold allT at e
  split at e
  · rename_i us
    obtain ⟨bs, e1, rfl⟩ := Option.map_eq_some_iff.mp e
    obtain ⟨p, ys, rfl, h1, h2⟩ := lst1 (f := allT fun bs => bs.all id) j rx
    rw [bools_v e1 h2] at h1
    exact ⟨p, bs, rfl, .inl (.inl h1), k _ H (Gv.refl j) (.bl _)⟩
  · cases e
theorem rc_any : RC C (rAny C.K) (allT fun bs => bs.any id) := fun R xs ts t H j rx e Q k => by
  unfold allT at e
  split at e
  · rename_i us
    obtain ⟨bs, e1, rfl⟩ := Option.map_eq_some_iff.mp e
    obtain ⟨p, ys, rfl, h1, h2⟩ := lst1 (f := allT fun bs => bs.any id) j rx
    rw [bools_v e1 h2] at h1
    exact ⟨p, bs, rfl, .inl (.inl h1), k _ H (Gv.refl j) (.bl _)⟩
  · cases e
theorem rc_sum : RC C (L2.rSum C.K) sumT := fun R xs ts t H j rx e Q k => by
  unfold sumT at e
  split at e
  · rename_i us
    obtain ⟨bs, e1, rfl⟩ := Option.map_eq_some_iff.mp e
    obtain ⟨p, ys, rfl, h1, h2⟩ := lst1 (f := sumT) j rx
    rw [ints_v e1 h2] at h1
    exact ⟨p, bs, rfl, .inl (.inl h1), k _ H (Gv.refl j) (.int _)⟩
  · cases e
end
end Vi

/-! Built-ins, texts. -/
namespace Vi
open PySem PySem.Spec PyProof.Rows L2 Fk
section
variable {C : VC} {E : XK} {R : Res} {H H' : Hp} {t : T} {v x y : V} {ts us : List T} {vs : List V} {dl : V → Hp → Prop} {L : (Hp → Prop) → Prop} {r r' : List V → Hp → VK → Prop} {f f' : List T → Option T} {te ta : TE} {a m : M T} {tA : TA} {ms : M (List T)}
abbrev rTupOf (K : PySem.W.Frag) : List V → Hp → VK → Prop := fun xs H Q => ∃ p ys, xs = [.ref p] ∧ ((SqL K H p ys ∧ ∀ l, H l = none → Q (.ref l) (upd H l (.tup ys))) ∨ (SqT K H p ys ∧ Q (.ref p) H))
theorem rc_tup : RC C (rTupOf C.K) tupT := fun R xs ts t H j rx e Q k => by
  unfold tupT at e
  split at e
  · cases e
    obtain ⟨p, ys, rfl, h1, h2⟩ := lst1 (f := tupT) j rx
    refine ⟨p, ys, rfl, .inl ⟨.inl (.inl h1), fun n hn => ?_⟩⟩
    have g := Gv.new (o := .tup ys) j hn
    exact k _ _ g (rep_tup upd_same (Fk.off j hn) (h2.gr g.1))
  · cases e
    obtain ⟨v, rfl, r1⟩ := reps1 rx
    have r1' := r1
    cases r1 with
    | tup h1 h2 => exact ⟨_, _, rfl, .inr ⟨.inl (.inl (h1 H (Gr.refl j))), k _ H (Gv.refl j) r1'⟩⟩
  · cases e
abbrev rLstOf (K : PySem.W.Frag) : List V → Hp → VK → Prop := fun xs H Q => ∃ p ys, xs = [.ref p] ∧ (SqL K H p ys ∨ SqT K H p ys) ∧ ∀ l, H l = none → Q (.ref l) (upd H l (.lst ys))
theorem lstT_items (e : lstT ts = some t) : ∃ s us, ts = [s] ∧ itemsT s = some us ∧ t = .lst us := by
  unfold lstT at e
  split at e <;> first | (cases e; exact ⟨_, _, rfl, rfl, rfl⟩) | exact nomatch e
theorem rc_lst : RC C (rLstOf C.K) lstT := fun R xs ts t H j rx e Q k => by
  obtain ⟨s, us, rfl, e1, rfl⟩ := lstT_items e
  obtain ⟨v, rfl, r1⟩ := reps1 rx
  obtain ⟨p, ys, rfl, h1, h2⟩ := seq_at j e1 r1
  refine ⟨p, ys, rfl, h1, fun n hn => ?_⟩
  have g := Gv.new (o := .lst ys) j hn
  exact k _ _ g (rep_lst upd_same (Fk.off j hn) (h2.gr g.1))
/-- a new list by list(..) -/
theorem sf_list (h : SA C E tA ms) : SF C E (tCB (rLstOf C.K) tA) (vCB lstT ms) := fun R σ H ρ Φ Ψ hs hx hA => fun H1 g Q k =>
  h R σ H ρ _ Ψ hs hx (all_bind.mp hA) H1 g _ fun xs H2 g2 ⟨ts, ps, rs⟩ => by
    obtain ⟨t, e, ht⟩ := all_opt.mp ps
    obtain ⟨s, us, rfl, e1, rfl⟩ := lstT_items e
    obtain ⟨v, rfl, r1⟩ := reps1 rs
    obtain ⟨p, ys, rfl, h1, h2⟩ := seq_at g2.1.1 e1 r1
    refine ⟨p, ys, rfl, h1, fun n hn => ?_⟩
    have g3 := Gv.new (o := .lst ys) g2.1.1 hn
    have hn1 : H1 n = none := by
      have o := Fk.off g2.1.1 hn
      cases z : H1 n with
      | none => rfl
      | some u => rw [g2.1.2 n u z o.1 o.2] at hn; cases hn
    exact k n _ (.lst us) (.lst ys) hn1 (g2.trans g3) upd_same ⟨ys, rfl, (h2.into hn (Fk.off g2.1.1 hn)).gr (add_new g2.1.1 hn)⟩ ht
abbrev rInt1 : List V → Hp → VK → Prop := fun xs H Q => (∃ i, xs = [.int i] ∧ Q (.int i) H) ∨ ∃ k, xs = [.bl k] ∧ Q (.int (if k then 1 else 0)) H
theorem rc_int : RC C rInt1 intT := fun R xs ts t H j rx e Q k => by
  unfold intT at e
  split at e
  · cases e
    obtain ⟨v, rfl, r1⟩ := reps1 rx
    cases r1
    exact .inl ⟨_, rfl, k _ H (Gv.refl j) (.int _)⟩
  · cases e
    obtain ⟨v, rfl, r1⟩ := reps1 rx
    cases r1
    exact .inr ⟨_, rfl, k _ H (Gv.refl j) (.int _)⟩
  · cases e
abbrev rAbs1 : List V → Hp → VK → Prop := fun xs H Q => ∃ i, xs = [.int i] ∧ Q (.int (if i < 0 then -i else i)) H
theorem rc_abs : RC C rAbs1 absT := fun R xs ts t H j rx e Q k => by
  unfold absT at e
  split at e
  · cases e
    obtain ⟨v, rfl, r1⟩ := reps1 rx
    cases r1
    exact ⟨_, rfl, k _ H (Gv.refl j) (.int _)⟩
  · cases e
/-- of which built-in class a value is -/
theorem ty_kind (j : R.J H) (hk : kindOf t ≠ "") (r : Rep C R t v H) : TyX C.K H v (.type (kindOf t)) := by
  cases t with
  | non => cases r; exact .base .non
  | bl b => cases r; exact .base (.bl b)
  | int i => cases r; exact .base (.int i)
  | str z => cases r; exact .base (.str _)
  | lst ts => cases r with | lst h1 h2 => exact .base (.lst (h1 H (Gr.refl j)))
  | tup ts => cases r with | tup h1 h2 => exact .base (.tup (h1 H (Gr.refl j)))
  | kt ts => cases r with
    | @kt a xs _ h1 h2 =>
      rcases h1 (fun _ => none) with q | ⟨o, its, n, e, c, _⟩
      · rcases q with q | ⟨o, q⟩ <;> cases q
      · exact .kTuple e c
  | dK ks ts => cases r with | dK h1 h2 h3 => exact .base (.dK (h1 H (Gr.refl j)))
  | dT ks ts => cases r with | dT h1 h2 h3 => exact .base (.dT (h1 H (Gr.refl j)))
  | _ => exact absurd rfl hk
theorem rc_isiB : RC C (rIsi C.K) isiB := fun R xs ts t H j rx e Q k => by
  unfold isiB at e
  split at e
  · rename_i u n
    by_cases q : kindOf u = ""
    · rw [if_pos q] at e; cases e
    · rw [if_neg q] at e
      obtain ⟨b, e1, rfl⟩ := Option.map_eq_some_iff.mp e
      obtain ⟨v, w, rfl, r1, r2⟩ := reps2 rx
      cases r2
      exact ⟨v, .ty n, _, _, b, rfl, .ty n, ty_kind j q r1, kit_ty e1, k _ H (Gv.refl j) (.bl b)⟩
  · cases e
/-! ### texts -/
def joinL (s : List Nat) : List (List Nat) → List Nat
  | [] => []
  | [x] => x
  | x :: xs => x ++ (s ++ joinL s xs)
theorem join_zs (s : List Nat) : ∀ ws : List (List Nat), Str.join (zs s) (ws.map zs) = zs (joinL s ws)
  | [] => rfl
  | [x] => rfl
  | x :: y :: ws => by
    have ih := join_zs s (y :: ws)
    show zs x ++ zs s ++ Str.join (zs s) ((y :: ws).map zs) = _
    rw [ih, zs_app, zs_app, List.append_assoc]; rfl
def toZ : T → Option (List Nat)
  | .str z => some z
  | _ => none
theorem strs_v : ∀ {ts : List T} {vs : List V} {bs : List (List Nat)}, ts.mapM toZ = some bs → Rps C dl L vs ts → vs = (bs.map zs).map V.str
  | [], _, bs, e, r => by cases r; simp at e; subst e; rfl
  | t :: ts, _, bs, e, r => by
    rw [List.mapM_cons] at e
    obtain ⟨b, e1, e2⟩ := Option.bind_eq_some_iff.mp e
    obtain ⟨cs, e3, e4⟩ := Option.bind_eq_some_iff.mp e2
    cases e4
    cases r with
    | cons r1 r2 =>
      cases t <;> first | (simp [toZ] at e1; done) | skip
      cases e1; cases r1
      rw [strs_v e3 r2]; rfl
def joinT (s : T) (xs : List T) : Option T := match s, xs with
  | .str z, [u] => (itemsT u).bind fun ts => (ts.mapM toZ).bind fun ws => if (ws.map List.length).sum + ws.length * z.length ≤ 1000000 then some (.str (joinL z ws)) else none
  | _, _ => none
theorem rm_join : RM C "str" (rJoin C.K) joinT := fun R x xs tx ts t H j rx rxs e Q k => by
  unfold joinT at e
  split at e
  · rename_i z u
    obtain ⟨us, e1, e2⟩ := Option.bind_eq_some_iff.mp e
    obtain ⟨ws, e3, e4⟩ := Option.bind_eq_some_iff.mp e2
    by_cases l : (ws.map List.length).sum + ws.length * z.length ≤ 1000000
    · rw [if_pos l] at e4; cases e4
      obtain ⟨v, rfl, r1⟩ := reps1 rxs
      obtain ⟨p, ys, rfl, h1, h2⟩ := seq_at j e1 r1
      cases rx
      have ey := strs_v e3 h2
      subst ey
      refine ⟨zs z, p, ws.map zs, rfl, rfl, h1, ?_, ?_⟩
      · rw [List.map_map, List.length_map, zs_len]
        have : (fun w : List Nat => (zs w).length) = List.length := by funext w; exact zs_len w
        show (ws.map (fun w : List Nat => (zs w).length)).sum + _ ≤ _
        rw [this]
        omega
      · rw [TL.join_eq, join_zs]
        exact k _ H (Gv.refl j) (.str _)
    · rw [if_neg l] at e4; cases e4
  · cases e
/-- a text cut at each sign c -/
def splitC (c : Nat) : List Nat → List (List Nat)
  | [] => [[]]
  | x :: xs => match splitC c xs with
    | p :: ps => if x = c then [] :: p :: ps else (x :: p) :: ps
    | [] => []
theorem splitC_ne (c : Nat) : ∀ l, splitC c l ≠ []
  | [] => by simp [splitC]
  | x :: xs => by
    have := splitC_ne c xs
    unfold splitC
    split
    · split <;> simp
    · rename_i h; exact absurd h this
theorem splitC_no (c : Nat) : ∀ (l p : List Nat), p ∈ splitC c l → c ∉ p
  | [], p, h => by simp [splitC] at h; subst h; simp
  | x :: xs, p, h => by
    have ih := splitC_no c xs
    unfold splitC at h
    split at h
    · rename_i q qs e
      rw [e] at ih
      split at h
      · rcases List.mem_cons.mp h with rfl | h
        · simp
        · exact ih p h
      · rename_i hx
        rcases List.mem_cons.mp h with rfl | h
        · intro z
          rcases List.mem_cons.mp z with z | z
          · exact hx z.symm
          · exact ih q List.mem_cons_self z
        · exact ih p (List.mem_cons_of_mem _ h)
    · cases h
theorem splitC_join (c : Nat) : ∀ l, joinL [c] (splitC c l) = l
  | [] => rfl
  | x :: xs => by
    have ih := splitC_join c xs
    have ne := splitC_ne c xs
    unfold splitC
    split
    · rename_i q qs e
      rw [e] at ih
      split
      · rename_i hx
        show [] ++ ([c] ++ joinL [c] (q :: qs)) = _
        rw [ih, hx]; rfl
      · cases qs with
        | nil => have : q = xs := ih; show x :: q = _; rw [this]
        | cons r rs =>
          have : q ++ ([c] ++ joinL [c] (r :: rs)) = xs := ih
          show (x :: q) ++ ([c] ++ joinL [c] (r :: rs)) = _
          rw [List.cons_append, this]
    · rename_i e; exact absurd e ne
theorem split_zs (c : Nat) (hc : c < 256) (l : List Nat) : Txt.split (zs l) (zs [c]) = (splitC c l).map zs := by
  have h := TL.split_join (y := zs [c]) (s := c) (S := []) rfl (by simp [zs]; exact hc) (parts := (splitC c l).map zs) (by simpa using splitC_ne c l) (fun p hp => by
    obtain ⟨q, hq, rfl⟩ := List.mem_map.mp hp
    have : TL.tl (zs q) = q := zs_cps q
    rw [this]
    exact splitC_no c l q hq)
  rw [TL.join_eq, join_zs, splitC_join] at h
  exact h
def splitT (s : T) (xs : List T) : Option T := match s, xs with
  | .str z, [.str [c]] => if c < 256 ∧ z.length ≤ 1000000 then some (.lst ((splitC c z).map T.str)) else none
  | _, _ => none
theorem reps_strs : ∀ ws : List (List Nat), Reps C R (ws.map T.str) ((ws.map zs).map V.str) H
  | [] => .nil
  | w :: ws => .cons (.str w) (reps_strs ws)
theorem rm_split : RM C "str" (fun x xs H Q => ∃ a b, x = .str a ∧ xs = [.str b] ∧ (b.length == 0) = false ∧ a.length + 2 ≤ sizeLine ∧ rNewStrs (Txt.split a b) H Q) splitT := fun R x xs tx ts t H j rx rxs e Q k => by
  unfold splitT at e
  split at e
  · rename_i z c
    by_cases l : c < 256 ∧ z.length ≤ 1000000
    · rw [if_pos l] at e; cases e
      obtain ⟨v, rfl, r1⟩ := reps1 rxs
      cases rx; cases r1
      refine ⟨zs z, zs [c], rfl, rfl, rfl, by rw [zs_len]; have := l.2; have : sizeLine = 16777216 := rfl; omega, ?_⟩
      rw [split_zs c l.1]
      intro n hn
      have g := Gv.new (o := .lst (((splitC c z).map zs).map V.str)) j hn
      exact k _ _ g (rep_lst upd_same (Fk.off j hn) (reps_strs _))
    · rw [if_neg l] at e; cases e
  · cases e
/-- a text's method -/
def vSM (f : T → List T → Option T) (a : M T) (ms : M (List T)) : M T := fun ρ => (a ρ).bind fun x => match x with
  | .str z => (ms ρ).bind fun ts => opt (f (.str z) ts)
  | _ => .fail
theorem se_sm {r : V → List V → Hp → VK → Prop} {f : T → List T → Option T} (hm : RM C "str" r f) (ho : SE C E te a) (h : SA C E tA ms) : SE C E (tBM C.K "str" r te tA) (vSM f a ms) := fun R σ H ρ Φ Ψ hs hx hA => fun H1 g Q k =>
  ho R σ H ρ _ Ψ hs hx (all_bind.mp hA) H1 g _ fun x H2 g2 ⟨tx, px, rx⟩ => by
    cases tx with
    | str z =>
      have rx' := rx
      cases rx
      exact ⟨rfl, h R σ H ρ _ Ψ hs hx (all_bind.mp px) H2 (g.trans g2) _ fun xs H3 g3 ⟨ts, ps, rs⟩ => by
        obtain ⟨t, e, ht⟩ := all_opt.mp ps
        exact hm R _ xs _ ts t H3 g3.1.1 (rx'.gr g3.1) rs e Q fun v H4 g4 rv => k v H4 (g2.trans (g3.trans g4)) ⟨t, ht, rv⟩⟩
    | _ => exact px.elim
/-! ### str of small numbers -/
def digs : List (Int × List Nat) := [(-9, [45, 57]), (-8, [45, 56]), (-7, [45, 55]), (-6, [45, 54]), (-5, [45, 53]), (-4, [45, 52]), (-3, [45, 51]), (-2, [45, 50]), (-1, [45, 49]), (0, [48]), (1, [49]), (2, [50]), (3, [51]), (4, [52]), (5, [53]), (6, [54]), (7, [55]), (8, [56]), (9, [57]), (10, [49, 48]), (11, [49, 49]), (12, [49, 50]), (13, [49, 51]), (14, [49, 52]), (15, [49, 53]), (16, [49, 54]), (17, [49, 55]), (18, [49, 56]), (19, [49, 57]), (20, [50, 48]), (21, [50, 49]), (22, [50, 50]), (23, [50, 51]), (24, [50, 52]), (25, [50, 53]), (26, [50, 54]), (27, [50, 55]), (28, [50, 56]), (29, [50, 57]), (30, [51, 48]), (31, [51, 49]), (32, [51, 50]), (33, [51, 51]), (34, [51, 52]), (35, [51, 53]), (36, [51, 54]), (37, [51, 55]), (38, [51, 56]), (39, [51, 57]), (40, [52, 48]), (41, [52, 49]), (42, [52, 50]), (43, [52, 51]), (44, [52, 52]), (45, [52, 53]), (46, [52, 54]), (47, [52, 55]), (48, [52, 56]), (49, [52, 57]), (50, [53, 48]), (51, [53, 49]), (52, [53, 50]), (53, [53, 51]), (54, [53, 52]), (55, [53, 53]), (56, [53, 54]), (57, [53, 55]), (58, [53, 56]), (59, [53, 57]), (60, [54, 48]), (61, [54, 49]), (62, [54, 50]), (63, [54, 51]), (64, [54, 52]), (65, [54, 53]), (66, [54, 54]), (67, [54, 55]), (68, [54, 56]), (69, [54, 57]), (70, [55, 48]), (71, [55, 49]), (72, [55, 50]), (73, [55, 51]), (74, [55, 52]), (75, [55, 53]), (76, [55, 54]), (77, [55, 55]), (78, [55, 56]), (79, [55, 57]), (80, [56, 48]), (81, [56, 49]), (82, [56, 50]), (83, [56, 51]), (84, [56, 52]), (85, [56, 53]), (86, [56, 54]), (87, [56, 55]), (88, [56, 56]), (89, [56, 57]), (90, [57, 48]), (91, [57, 49]), (92, [57, 50]), (93, [57, 51]), (94, [57, 52]), (95, [57, 53]), (96, [57, 54]), (97, [57, 55]), (98, [57, 56]), (99, [57, 57])]
def digZ (i : Int) : Option (List Nat) := (digs.find? fun p => decide (p.1 = i)).map (·.2)
theorem digs_ok : ∀ p, p ∈ digs → Fk.numS p.1 = zs p.2 ∧ p.1.natAbs.log2 < 1920 := by decide +kernel
theorem digZ_ok {i : Int} {z : List Nat} (h : digZ i = some z) : Fk.numS i = zs z ∧ i.natAbs.log2 < 1920 := by
  obtain ⟨p, hp, rfl⟩ := Option.map_eq_some_iff.mp h
  have e : p.1 = i := by simpa using List.find?_some hp
  subst e
  exact digs_ok p (List.mem_of_find?_eq_some hp)
def strT : List T → Option T
  | [.int i] => (digZ i).map T.str
  | [.str z] => some (.str z)
  | _ => none
abbrev rStrIS : List V → Hp → VK → Prop := fun xs H Q => (∃ i, xs = [.int i] ∧ i.natAbs.log2 < 1920 ∧ Q (.str (toString i)) H) ∨ ∃ a, xs = [.str a] ∧ Q (.str a) H
theorem rc_str : RC C rStrIS strT := fun R xs ts t H j rx e Q k => by
  unfold strT at e
  split at e
  · obtain ⟨z, e1, rfl⟩ := Option.map_eq_some_iff.mp e
    obtain ⟨v, rfl, r1⟩ := reps1 rx
    cases r1
    obtain ⟨a, b⟩ := digZ_ok e1
    refine .inl ⟨_, rfl, b, ?_⟩
    show Q (.str (Fk.numS _)) H
    rw [a]
    exact k _ H (Gv.refl j) (.str _)
  · cases e
    obtain ⟨v, rfl, r1⟩ := reps1 rx
    cases r1
    exact .inr ⟨_, rfl, k _ H (Gv.refl j) (.str _)⟩
  · cases e
end
end Vi

/-! Own ==, own str; stars; dicts; several targets. -/
namespace Vi
open PySem PySem.Spec PyProof.Rows L2 Fk
def RCP (C : VC) (r : List V → Hp → VK → Prop) (f : List T → Prog T) : Prop := ∀ (R : Res) (xs : List V) (ts : List T) (Φ : T → Prop) (H : Hp), R.J H → Reps C R ts xs H → (f ts).All Φ (fun _ _ _ => False) → ∀ Q : VK, (∀ v H2 t, Gv R H H2 → Φ t → Rep C R t v H2 → Q v H2) → r xs H Q
def ROP (C : VC) (r : R2) (f : T → T → Prog T) : Prop := ∀ (R : Res) (x y : V) (tx ty : T) (Φ : T → Prop) (H : Hp), R.J H → Rep C R tx x H → Rep C R ty y H → (f tx ty).All Φ (fun _ _ _ => False) → ∀ Q : VK, (∀ v H2 t, Gv R H H2 → Φ t → Rep C R t v H2 → Q v H2) → r x y H Q
def vCBP (f : List T → Prog T) (ms : M (List T)) : M T := fun ρ => (ms ρ).bind fun ts => (f ts).hush
def vOpP (f : T → T → Prog T) (a b : M T) : M T := fun ρ => (a ρ).bind fun x => (b ρ).bind fun y => (f x y).hush
section
variable {C : VC} {E : XK} {R : Res} {H H' : Hp} {t : T} {v x y : V} {ts us : List T} {vs : List V} {te ta tb td : TE} {a b m : M T} {tA : TA} {ms : M (List T)} {sx : Option Addr}
theorem rcp_of {r : List V → Hp → VK → Prop} {f : List T → Option T} (h : RC C r f) : RCP C r fun ts => opt (f ts) := fun R xs ts Φ H j rx hA Q k => by
  obtain ⟨t, e, ht⟩ := all_opt.mp hA
  exact h R xs ts t H j rx e Q fun v H2 g r => k v H2 t g ht r
theorem rop_of {r : R2} {f : T → T → Option T} (h : RO C r f) : ROP C r fun x y => opt (f x y) := fun R x y tx ty Φ H j rx ry hA Q k => by
  obtain ⟨t, e, ht⟩ := all_opt.mp hA
  exact h R x y tx ty t H j rx ry e Q fun v H2 g r => k v H2 t g ht r
theorem se_cbp {r : List V → Hp → VK → Prop} {f : List T → Prog T} (rc : RCP C r f) (h : SA C E tA ms) : SE C E (tCB r tA) (vCBP f ms) := fun R σ H ρ Φ Ψ hs hx hA => fun H1 g Q k =>
  h R σ H ρ _ Ψ hs hx (all_bind.mp hA) H1 g _ fun xs H2 g2 ⟨ts, ps, rs⟩ => rc R xs ts Φ H2 g2.1.1 rs (all_hush ps) Q fun v H3 t g3 ht rv => k v H3 (g2.trans g3) ⟨t, ht, rv⟩
theorem se_opp {r : R2} {f : T → T → Prog T} (ro : ROP C r f) (ha : SE C E ta a) (hb : SE C E tb b) : SE C E (tOp r ta tb) (vOpP f a b) := fun R σ H ρ Φ Ψ hs hx hA => fun H1 g Q k =>
  ha R σ H ρ _ Ψ hs hx (all_bind.mp hA) H1 g _ fun x H2 g2 ⟨tx, px, rx⟩ => hb R σ H ρ _ Ψ hs hx (all_bind.mp px) H2 (g.trans g2) _ fun y H3 g3 ⟨ty, py, ry⟩ =>
    ro R x y tx ty Φ H3 g3.1.1 (rx.gr g3.1) ry (all_hush py) Q fun v H4 t g4 ht rv => k v H4 (g2.trans (g3.trans g4)) ⟨t, ht, rv⟩
/-- by the first argument's class -/
def isInsC (c : Nat) : T → Bool
  | .ins c' _ _ => decide (c' = c)
  | _ => false
def isStr : T → Bool
  | .str _ => true
  | _ => false
def strOwnP (c n : Nat) (m : List T → Prog T) (f : List T → Prog T) : List T → Prog T := fun ts => match ts with
  | [t] => if isInsC c t = true then (if n = 1 then (m [t]).bind fun z => if isStr z = true then .ret z else .fail else .fail) else f ts
  | _ => f ts
theorem rcp_strOwn {c n : Nat} {D : Addr} {m : List T → Prog T} {r : List V → Hp → VK → Prop} {f : List T → Prog T} (eD : D = C.cl c) (h : RCP C r f) : RCP C (fun xs H Q => rStrOwn D (spM C n m) E xs H Q ∨ r xs H Q) (strOwnP c n m f) := fun R xs ts Φ H j rx hA Q k => by
  unfold strOwnP at hA
  split at hA
  · rename_i t
    by_cases q : isInsC c t = true
    · rw [if_pos q] at hA
      by_cases q1 : n = 1
      · rw [if_pos q1] at hA
        obtain ⟨v, rfl, r1⟩ := reps1 rx
        cases t with
        | ins c' ns ts =>
          have ec : c' = c := of_decide_eq_true q
          have r1' := r1
          cases r1 with
          | @ins a dx _ fs _ _ hi hn hr =>
            refine .inl ⟨a, dx, fs, rfl, by rw [eD, ← ec]; exact hi H (Gr.refl j), R, [.ins c' ns ts], q1.symm, j, .cons r1' .nil, ?_⟩
            refine all_imp (fun z hz v H' g rv => ?_) (fun _ _ _ h => h) (all_bind.mp hA)
            cases z <;> first | exact hz.elim | skip
            have hz' : Φ _ := hz
            have rv' := rv
            cases rv
            exact ⟨_, rfl, k _ H' _ g hz' rv'⟩
        | _ => exact nomatch q
      · rw [if_neg q1] at hA; exact hA.elim
    · rw [if_neg q] at hA
      exact .inr (h R xs _ Φ H j rx hA Q k)
  · exact .inr (h R xs _ Φ H j rx hA Q k)
/-- == and != of instances of the class c -/
def eqOwnP (neg : Bool) (c n : Nat) (m : List T → Prog T) (ok : T → Bool) (f : T → T → Prog T) : T → T → Prog T := fun x y => if isInsC c x = true then (if n = 2 ∧ ok y = true then (m [x, y]).bind fun z => (opt (toB z)).bind fun b => .ret (.bl (xor neg b)) else .fail) else f x y
/-- a value's class is not asked ahead of C -/
def NotF (C : VC) (D : Addr) (ok : T → Bool) : Prop := ∀ (R : Res) (t : T) (v : V) (H : Hp), R.J H → Rep C R t v H → ok t = true → ∃ ty, TyX C.K H v ty ∧ PySem.W.notFirst C.K D ty = true
theorem rop_eqOwn {neg : Bool} {c n : Nat} {D : Addr} {m : List T → Prog T} {r : R2} {ok : T → Bool} {f : T → T → Prog T} {g : Bool → Bool} (hg : ∀ b, g b = xor neg b) (eD : D = C.cl c) (nf : NotF C D ok) (h : ROP C r f) : ROP C (Vi.rSum (rOwn C.K D (spM C n m) E g) r) (eqOwnP neg c n m ok f) := fun R x y tx ty Φ H j rx ry hA Q k => by
  unfold eqOwnP at hA
  by_cases q : isInsC c tx = true
  · rw [if_pos q] at hA
    by_cases q2 : n = 2 ∧ ok ty = true
    · rw [if_pos q2] at hA
      cases tx with
      | ins c' ns ts =>
        have ec : c' = c := of_decide_eq_true q
        have rx' := rx
        cases rx with
        | @ins a dx _ fs _ _ hi hn hr =>
          obtain ⟨tt, h1, h2⟩ := nf R ty y H j ry q2.2
          refine .inl ⟨a, dx, fs, tt, rfl, by rw [eD, ← ec]; exact hi H (Gr.refl j), h1, h2, R, [.ins c' ns ts, ty], q2.1.symm, j, .cons rx' (.cons ry .nil), ?_⟩
          refine all_imp (fun z hz v H' gv rv => ?_) (fun _ _ _ h => h) (all_bind.mp hA)
          obtain ⟨b, eb, hb⟩ := all_opt.mp (all_bind.mp hz)
          cases z <;> first | (simp [toB] at eb; done) | skip
          cases eb; cases rv
          refine ⟨_, rfl, ?_⟩
          rw [hg]
          exact k _ H' _ gv hb (.bl _)
      | _ => exact nomatch q
    · rw [if_neg q2] at hA; exact hA.elim
  · rw [if_neg q] at hA
    exact .inr (h R x y tx ty Φ H j rx ry hA Q k)
/-! ### isinstance of a class of one's own -/
def isiO (c : Nat) (tbl : T → Option Bool) : List T → Option T
  | [t, .cl c'] => if c' = c then (tbl t).map fun b => .bl b else none
  | _ => none
theorem rc_isiO {c : Nat} {tbl : T → Option Bool} (h : ∀ (R : Res) (t : T) (v : V) (H : Hp) (b : Bool), R.J H → Rep C R t v H → tbl t = some b → ∃ ty, TyX C.K H v ty ∧ PySem.W.kitOne C.K ty (.ref (C.cl c)) = some b) : RC C (rIsi C.K) (isiO c tbl) := fun R xs ts t H j rx e Q k => by
  unfold isiO at e
  split at e
  · rename_i u c'
    by_cases q : c' = c
    · subst q
      rw [if_pos rfl] at e
      obtain ⟨b, e1, rfl⟩ := Option.map_eq_some_iff.mp e
      obtain ⟨v, w, rfl, r1, r2⟩ := reps2 rx
      cases r2
      obtain ⟨ty, h1, h2⟩ := h R u v H b j r1 e1
      exact ⟨v, _, ty, _, b, rfl, .own _, h1, h2, k _ H (Gv.refl j) (.bl b)⟩
    · rw [if_neg q] at e; cases e
  · cases e
/-- isinstance(x, (list, tuple)), the tuple just laid -/
def isiT2 : List T → Option T
  | [t, .tup [.ty a, .ty b]] => if kindOf t = "" then none else (kitB (kindOf t) a).bind fun p => (kitB (kindOf t) b).map fun q => .bl (p || q)
  | _ => none
theorem rc_isiT2 : RC C (rIsiT C.K) isiT2 := fun R xs ts t H j rx e Q k => by
  unfold isiT2 at e
  split at e
  · rename_i u p q
    by_cases h : kindOf u = ""
    · rw [if_pos h] at e; cases e
    · rw [if_neg h] at e
      obtain ⟨b1, e1, e2⟩ := Option.bind_eq_some_iff.mp e
      obtain ⟨b2, e3, rfl⟩ := Option.map_eq_some_iff.mp e2
      obtain ⟨v, w, rfl, r1, r2⟩ := reps2 rx
      cases r2 with
      | @tup tp ys _ h1 h2 =>
        obtain ⟨y1, y2, rfl, s1, s2⟩ := reps2 (R := R) (H := H) h2
        cases s1; cases s2
        refine ⟨v, tp, _, _, [.type p, .type q], b1 || b2, rfl, h1 H (Gr.refl j), .cons (.ty p) (.cons (.ty q) .nil), ty_kind j h r1, ?_, k _ H (Gv.refl j) (.bl _)⟩
        have k1 : PySem.W.kitOne C.K (.type (kindOf u)) (.type p) = some b1 := kit_ty e1
        have k2 : PySem.W.kitOne C.K (.type (kindOf u)) (.type q) = some b2 := kit_ty e3
        cases b1 <;> cases b2 <;> simp [PySem.W.kitAny, k1, k2]
  · cases e
/-! ### stars -/
def vStar (a : M T) (ms : M (List T)) : M (List T) := fun ρ => (a ρ).bind fun t => (opt (itemsT t)).bind fun xs => (ms ρ).bind fun ys => .ret (xs ++ ys)
theorem sa_star (ha : SE C E ta a) (hr : SA C E tA ms) : SA C E (StX.tStar C.K ta tA) (vStar a ms) := fun R σ H ρ Φ Ψ hs hx hA => fun H1 g Q k =>
  ha R σ H ρ _ Ψ hs hx (all_bind.mp hA) H1 g _ fun x H2 g2 ⟨t, pt, rt⟩ => by
    obtain ⟨xs, e, hp⟩ := all_opt.mp (all_bind.mp pt)
    obtain ⟨p, vs, rfl, h1, h2⟩ := seq_at g2.1.1 e rt
    refine ⟨p, vs, rfl, h1.symm, hr R σ H ρ _ Ψ hs hx (all_bind.mp hp) H2 (g.trans g2) _ fun ys H3 g3 ⟨us, pu, ru⟩ => ?_⟩
    exact k _ H3 (g2.trans g3) ⟨xs ++ us, pu, Rps.app (h2.gr g3.1) ru⟩
def vCons (a : M T) (ms : M (List T)) : M (List T) := fun ρ => (a ρ).bind fun x => (ms ρ).bind fun xs => .ret (x :: xs)
theorem sa_cons' (ha : SE C E ta a) (hr : SA C E tA ms) : SA C E (tCons ta tA) (vCons a ms) := fun R σ H ρ Φ Ψ hs hx hA => fun H1 g Q k =>
  ha R σ H ρ _ Ψ hs hx (all_bind.mp hA) H1 g _ fun x H2 g2 ⟨tx, px, rx⟩ => hr R σ H ρ _ Ψ hs hx (all_bind.mp px) H2 (g.trans g2) _ fun xs H3 g3 ⟨ts, ps, rs⟩ => k (x :: xs) H3 (g2.trans g3) ⟨tx :: ts, ps, .cons (rx.gr g3.1) rs⟩
def vNil : M (List T) := fun _ => .ret []
theorem sa_nil' : SA C E tNil vNil := fun R σ H ρ Φ Ψ hs hx hA => fun H1 g Q k => k [] H1 g.at ⟨[], hA, .nil⟩
/-! ### d[k] -/
def findK {κ : Type} [DecidableEq κ] : List κ → List T → κ → Option T
  | k :: ks, t :: ts, x => if k = x then some t else findK ks ts x
  | _, _, _ => none
theorem findK_get {κ κ' : Type} [DecidableEq κ] [DecidableEq κ'] {f : κ' → κ} (inj : ∀ a b, f a = f b → a = b) {L : (Hp → Prop) → Prop} {dl : V → Hp → Prop} {k : κ'} : ∀ {ks : List κ'} {kvs : List (κ × V)} {ts : List T}, kvs.map (·.1) = ks.map f → Rps C dl L (kvs.map (·.2)) ts →
    (∀ t, findK ks ts k = some t → ∃ v, valV kvs (f k) = some v ∧ Rp C dl L v t) ∧ (findK ks ts k = none → valV kvs (f k) = none)
  | [], [], ts, _, r => by cases r; exact ⟨fun t e => by simp [findK] at e, fun _ => rfl⟩
  | [], _ :: _, _, h, _ => nomatch h
  | _ :: _, [], _, h, _ => nomatch h
  | q :: ks, (y, w) :: kvs, ts, h, r => by
    have h1 := List.cons.inj h
    have hy : y = f q := h1.1
    cases r with
    | @cons _ _ u us r1 r2 =>
      have ih := findK_get inj (k := k) h1.2 r2
      by_cases e : q = k
      · have e1 : valV ((y, w) :: kvs) (f k) = some w := by rw [hy, e]; simp [valV]
        have e2 : findK (q :: ks) (u :: us) k = some u := by simp [findK, e]
        rw [e1, e2]
        exact ⟨fun t ht => by cases ht; exact ⟨w, rfl, r1⟩, fun z => nomatch z⟩
      · have ne : ¬ y = f k := by rw [hy]; exact fun z => e (inj _ _ z)
        have e1 : valV ((y, w) :: kvs) (f k) = valV kvs (f k) := by simp [valV, ne]
        have e2 : findK (q :: ks) (u :: us) k = findK ks us k := by simp [findK, e]
        rw [e1, e2]
        exact ih
def getT (d k : T) : Option (Option T) := match d with
  | .dK ks ts => (toKS k).map fun q => findK ks ts q
  | .dT ks ts => (keyT k).map fun q => findK ks ts q
  | _ => none
def OptRep (C : VC) (R : Res) (H : Hp) : Option T → Option V → Prop
  | some t, some v => Rep C R t v H
  | none, none => True
  | _, _ => False
theorem dget_at (j : R.J H) {td tk : T} {x y : V} {o : Option T} (e : getT td tk = some o) (rd : Rep C R td x H) (rk : Rep C R tk y H) : ∃ p ov, x = .ref p ∧ DGet H p y ov ∧ OptRep C R H o ov := by
  cases td with
  | dK ks ts =>
    obtain ⟨q, e1, rfl⟩ := Option.map_eq_some_iff.mp (show (toKS tk).map (fun q => findK ks ts q) = some o from e)
    cases rd with
    | @dK p kvs _ _ h1 h2 h3 =>
      have hp := h1 H (Gr.refl j)
      refine ⟨p, valV kvs q.key, rfl, by rw [toKS_rep e1 rk]; exact DGet.k hp, ?_⟩
      obtain ⟨a, b⟩ := findK_get (f := KS.key) (fun a b => key_inj) (k := q) h2 h3
      cases z : findK ks ts q with
      | none => rw [b z]; exact True.intro
      | some t => obtain ⟨v, e3, e4⟩ := a t z; rw [e3]; exact e4
  | dT ks ts =>
    obtain ⟨q, e1, rfl⟩ := Option.map_eq_some_iff.mp (show (keyT tk).map (fun q => findK ks ts q) = some o from e)
    cases tk with
    | tup us =>
      cases rk with
      | @tup b ys _ hb hys =>
        have eb : H b = some (.tup ((q.map KS.key).map kV)) := by
          have := hb H (Gr.refl j)
          rw [toKSs_rep e1 hys] at this
          exact this
        cases rd with
        | @dT p kvs _ _ h1 h2 h3 =>
          have hp := h1 H (Gr.refl j)
          refine ⟨p, valV kvs (q.map KS.key), rfl, DGet.t hp eb, ?_⟩
          obtain ⟨a, b⟩ := findK_get (f := fun x : List KS => x.map KS.key) (fun a b => keys_inj) (k := q) h2 h3
          cases z : findK ks ts q with
          | none => rw [b z]; exact True.intro
          | some t => obtain ⟨v, e3, e4⟩ := a t z; rw [e3]; exact e4
    | _ => exact nomatch e1
  | _ => exact nomatch e
def vGet (d k : M T) : M T := fun ρ => (d ρ).bind fun x => (k ρ).bind fun y => (opt (getT x y)).bind fun o => opt o
theorem se_get {tk : TE} {d k : M T} (hd : SE C E td d) (hk : SE C E tk k) : SE C E (tDGet td tk) (vGet d k) := fun R σ H ρ Φ Ψ hs hx hA => fun H1 g Q kk =>
  hd R σ H ρ _ Ψ hs hx (all_bind.mp hA) H1 g _ fun x H2 g2 ⟨tx, px, rx⟩ => hk R σ H ρ _ Ψ hs hx (all_bind.mp px) H2 (g.trans g2) _ fun y H3 g3 ⟨ty, py, ry⟩ => by
    obtain ⟨o, e, po⟩ := all_opt.mp (all_bind.mp py)
    obtain ⟨t, e2, pt⟩ := all_opt.mp po
    subst e2
    obtain ⟨p, ov, rfl, hg, hv⟩ := dget_at g3.1.1 e (rx.gr g3.1) ry
    cases ov with
    | none => exact hv.elim
    | some v => exact ⟨p, v, rfl, hg, kk v H3 (g2.trans g3) ⟨t, pt, hv⟩⟩
/-- d.get(k) -/
def vGet1 (d k : M T) : M T := fun ρ => (d ρ).bind fun x => match x with
  | .dK _ _ => (k ρ).bind fun y => (opt (getT x y)).bind fun o => .ret (o.getD .non)
  | .dT _ _ => (k ρ).bind fun y => (opt (getT x y)).bind fun o => .ret (o.getD .non)
  | _ => .fail
theorem se_get1 {tk : TE} {d k : M T} (hd : SE C E td d) (hk : SE C E tk k) : SE C E (tDGet1 td tk) (vGet1 d k) := fun R σ H ρ Φ Ψ hs hx hA => fun H1 g Q kk =>
  hd R σ H ρ _ Ψ hs hx (all_bind.mp hA) H1 g _ fun x H2 g2 ⟨tx, px, rx⟩ => by
    have fin : ∀ (a : Addr), x = .ref a → IsD H2 a → ((k ρ).bind fun y => (opt (getT tx y)).bind fun o => .ret (o.getD .non)).All Φ Ψ → ∃ a, x = .ref a ∧ IsD H2 a ∧ tk σ H2 fun y H3 => ∃ o, DGet H3 a y o ∧ Q (o.getD .non) H3 := fun a ea da pp => by
      refine ⟨a, ea, da, hk R σ H ρ _ Ψ hs hx (all_bind.mp pp) H2 (g.trans g2) _ fun y H3 g3 ⟨ty, py, ry⟩ => ?_⟩
      obtain ⟨o, e, po⟩ := all_opt.mp (all_bind.mp py)
      obtain ⟨p, ov, ex, hg, hv⟩ := dget_at g3.1.1 e (rx.gr g3.1) ry
      have ep : p = a := by rw [ea] at ex; exact (V.ref.inj ex).symm
      subst ep
      refine ⟨ov, hg, ?_⟩
      cases o with
      | none => cases ov with
        | none => exact kk _ H3 (g2.trans g3) ⟨_, po, .non⟩
        | some v => exact (hv : False).elim
      | some t => cases ov with
        | none => exact (hv : False).elim
        | some v => exact kk _ H3 (g2.trans g3) ⟨_, po, hv⟩
    cases tx with
    | dK ks ts =>
      cases rx with
      | dK h1 h2 h3 => exact fin _ rfl (.inl ⟨_, .inl (h1 H2 (Gr.refl g2.1.1))⟩) px
    | dT ks ts =>
      cases rx with
      | dT h1 h2 h3 => exact fin _ rfl (.inr ⟨_, .inl (h1 H2 (Gr.refl g2.1.1))⟩) px
    | _ => exact px.elim
/-! ### several targets -/
def vPar (i j : Nat) (ms : M (List T)) : MS := fun ρ => (ms (ρ.map seeS)).bind fun ts => match ts with
  | [a, b] => .ret (.nx ((ρ.set i (.sh a)).set j (.sh b)))
  | _ => .fail
theorem ss_par (i j : Nat) (h : SA C E tA ms) : SS C E (tPar i j tA) (vPar i j ms) := fun R sx H0 ps ρ σ H Φ Ψ D hs x hA e => by
  refine h (wth R ps) σ H (ρ.map Vi.seeS) _ Ψ hs.shown (x.atS hs) (all_bind.mp hA) H (Gr.refl hs.j) _ fun us H2 g ⟨ts, pt, rt⟩ => ?_
  have h2 := hs.gv g
  match ts, pt, rt with
  | [a, b], pt, rt =>
    obtain ⟨v, w, rfl, r1, r2⟩ := reps2 rt
    exact ⟨v, w, rfl, e.nx _ pt ps _ H2 ((h2.setSh r1).setSh r2) (Ext.gv hs.ow g)⟩
  | [], pt, _ => exact pt.elim
  | [_], pt, _ => exact pt.elim
  | _ :: _ :: _ :: _, pt, _ => exact pt.elim
def vAsgT (m : M T) (f : T → EnvS → Option EnvS) : MS := fun ρ => (m (ρ.map seeS)).bind fun t => (opt (f t ρ)).bind fun ρ' => .ret (.nx ρ')
theorem ss_asgT {g : TG} {f : T → EnvS → Option EnvS} (h : SE C E te m) (hg : SG C g f) : SS C E (tAsg te g) (vAsgT m f) := fun R sx H0 ps ρ σ H Φ Ψ D hs x hA e =>
  h.runS hs x (all_bind.mp hA) fun v H2 t g2 h2 pt rt => by
    obtain ⟨ρ', e1, pr⟩ := all_opt.mp (all_bind.mp pt)
    exact hg R sx H0 ps ρ ρ' σ H2 v t h2 rt e1 _ fun σ' s' => e.nx ρ' pr ps σ' H2 s' (Ext.gv hs.ow g2)
def negT : T → Option T
  | .int i => some (.int (-i))
  | _ => none
theorem ru_neg : RU C (rU fun i => .int (-i)) negT := fun R x tx t H j rx e Q k => by
  cases tx <;> first | (simp [negT] at e; done) | skip
  cases e; cases rx
  exact ⟨_, rfl, k _ H (Gv.refl j) (.int _)⟩
end
end Vi

/-! A dict comprehension with two fors, its keys ints and texts or tuples of them. -/
namespace Fk
open PySem PySem.Spec PyProof.Rows L2
abbrev ifGo (env : Env) : Expr → Bool → Sem (ForInStep Bool) := fun c r => if r = true then do
    let ok ← isTrue c env (eval c env)
    pure (ForInStep.yield ok)
  else pure (ForInStep.yield r)
/-- one turn of a clause; tl: what comes behind its tests -/
def clTurn (p : Pos) (tg : Expr) (fs : List Expr) (it : Value) (env : Env) (tl : Bool → Sem Fin) : Sem Fin := do
  standAt p
  match ← pyNext it with
  | none => pure (.done .next)
  | some v =>
    letOwnedTupleGo tg it v
    assign tg env v
    let ok ← forIn fs true (ifGo env)
    tl ok
abbrev d2 (kx vx t0 i0 t1 i1 : Expr) (f0 f1 : List Expr) (scope : Scope) (pos : Pos) : Expr := .DictComp kx vx [⟨t0, i0, f0, 0⟩, ⟨t1, i1, f1, 0⟩] scope pos
section
variable {kx vx t0 i0 t1 i1 : Expr} {f0 f1 : List Expr} {scope : Scope} {pos : Pos} {it : Value} {D : Addr} {env : Env}
def outTl (kx vx t0 i0 t1 i1 : Expr) (f0 f1 : List Expr) (scope : Scope) (pos : Pos) (it : Value) (D : Addr) (env : Env) : Bool → Sem Fin := fun ok =>
  let e := d2 kx vx t0 i0 t1 i1 f0 f1 scope pos
  if ok = true then do
    let x ← eval i1 env
    standAt i1.pos
    let x ← foldedSetIterable i1 env x
    let it1 ← holding [x] (pyIter x)
    let _ ← runOwn (.compStart e 1 it1 (.ref D) env) env
    again (.compLoop e 0 it (.ref D) env)
  else again (.compLoop e 0 it (.ref D) env)
def inTl (kx vx t0 i0 t1 i1 : Expr) (f0 f1 : List Expr) (scope : Scope) (pos : Pos) (it : Value) (D : Addr) (env : Env) : Bool → Sem Fin := fun ok =>
  let e := d2 kx vx t0 i0 t1 i1 f0 f1 scope pos
  if ok = true then do
    (do
      let a ← eval kx env
      let b ← holding [a] (eval vx env)
      standAt { kx.pos with endLine := vx.pos.endLine, endCol := vx.pos.endCol }
      holding [a, b] (dictSet D a b))
    again (.compLoop e 1 it (.ref D) env)
  else again (.compLoop e 1 it (.ref D) env)
theorem outTurn : compTurn (d2 kx vx t0 i0 t1 i1 f0 f1 scope pos) 0 it (.ref D) env = clTurn i0.pos t0 f0 it env (outTl kx vx t0 i0 t1 i1 f0 f1 scope pos it D env) := by rfl
theorem inTurn : compTurn (d2 kx vx t0 i0 t1 i1 f0 f1 scope pos) 1 it (.ref D) env = clTurn i1.pos t1 f1 it env (inTl kx vx t0 i0 t1 i1 f0 f1 scope pos it D env) := by rfl
end
/-- what a turn leaves of the slots is what was known -/
def Keeps (σ σ' : L2.St) : Prop := σ.length = σ'.length ∧ ∀ (j : Nat) v, σ[j]? = some (some v) → σ'[j]? = some (some v)
theorem Keeps.of_wipe {σ σ' : L2.St} {ws : List Nat} (e : L2.wipe σ' ws = L2.wipe σ ws) : Keeps (L2.wipe σ ws) σ' := ⟨by rw [← e, wipe_length], fun j v h => by rw [← e] at h; exact (wipe_some h).1⟩
/-- a clause's loop: the walk at J, W its invariant by turns and a measure, Z what tests and target leave to what comes behind -/
theorem clause_loop {Y : Cx} {pins : List (Addr × Obj)} {lp : Code} {p : Pos} {tg : Expr} {fs : List Expr} {it : Addr} {fp : List Addr} {tn : Nat → Heap → Prop} {J : It} {g : TG} {tt : TT} {ws : List Nat} {σ : L2.St} {R : Result → Shared → Prop} {tl : Bool → Sem Fin} {s0 : Shared} {H0 : Hp}
    {W : Nat → Nat → Hp → Prop} {Z : (Hp → Prop) → L2.St → Bool → Hp → Prop} {n0 : Nat} {sem : Sem Fin}
    (quiet : lp.quiet = true) (den : (model Y.prog Y.w).den lp = sem.onRaise (fun x => do noteFrame x Y.env; theTreesLotGoes x)) (und : Y.A.under lp = Y.A)
    (turn_eq : sem = clTurn p tg fs (.ref it) Y.env tl) (T : Turn Y.prog Y.w Y.K tg J fp it tn) (calm : Y.calm = true) (pg : PG Y tg g) (pt : PTs Y fs tt) (hxe : Y.xe = fun _ _ => False)
    (stat : ∀ {σ' : L2.St} {H' : Hp} {s' : Shared}, Inv Y pins σ' H' s' → (∀ b ∈ fp, H' b = none) → ∀ b ∈ fp, FpOk Y pins H' b)
    (steps : ∀ i m H, W i m H → (J.stop i H ∧ ∀ s, Inv Y pins (L2.wipe σ ws) H s → R (.ok .next) s) ∨
      (J.go i H ∧ ∃ Nx : Hp → Prop, (∀ H', Nx H' → ∃ m', m' < m ∧ W (i + 1) m' H') ∧ ∀ x H', J.yld i H x H' → g x (L2.wipe σ ws) H' fun σ2 H2 => L2.wipe σ2 ws = L2.wipe σ ws ∧ tt σ2 H2 (Z Nx σ2)))
    (rest : ∀ (Nx : Hp → Prop) (pn : List (Addr × Obj)) (σ2 : L2.St) (b : Bool) (H3 : Hp) (s : Shared), Keeps (L2.wipe σ ws) σ2 → Inv Y (pins ++ pn) σ2 H3 s → Z Nx σ2 b H3 →
      wpAny (model Y.prog Y.w) Y.A (tl b) (fun fin s' => fin = .again lp ∧ ∃ σ' H', Inv Y (pins ++ pn) σ' H' s' ∧ Keeps (L2.wipe σ ws) σ' ∧ Nx H') (fun _ _ => False) s)
    (I0 : Inv Y pins (L2.wipe σ ws) H0 s0) (st0 : tn 0 s0.heap) (nf0 : ∀ b ∈ fp, H0 b = none) (w0 : W 0 n0 H0) : codeAny (model Y.prog Y.w) Y.A lp R s0 := by
  refine codeAny_loop quiet (fun n s' => ∃ i H', Inv Y pins (L2.wipe σ ws) H' s' ∧ tn i s'.heap ∧ (∀ b ∈ fp, H' b = none) ∧ W i n H') (fun n s hI => ?_) n0 ⟨0, H0, I0, st0, nf0, w0⟩
  obtain ⟨i, H, I, st, nf, w⟩ := hI
  rw [den, und, turn_eq]
  refine wpAny_noted (wpAny_bind (wpAny_standAt (wpAny_bind ?_)))
  rcases steps i n H w with ⟨stop, fin⟩ | ⟨go, Nx, hNx, step⟩
  · refine thnF (T.done Y rfl rfl rfl calm i pins s _ H (fun _ _ => False) I (stat I nf) st stop) fun r s1 ⟨hr, I1⟩ => ?_
    subst hr
    exact wpAny_pure (fin s1 I1)
  · refine thnF (T.item Y rfl rfl rfl calm i pins s _ H (fun _ _ => False) I (stat I nf) st go) fun r s1 ⟨u, hr, h1⟩ => ?_
    subst hr
    refine wpAny_bind (thnF h1 fun _ s2 ⟨x, H2, I2, r2, y2, st2, nf2⟩ => ?_)
    have I3 := I2.pinned (stat I2 nf2) (T.obj _ _ st2)
    refine wpAny_bind (thnF (hxe ▸ pg.run _ s2 _ H2 x u _ I3 r2 (step x H2 y2)) fun _ s4 ⟨σ4, H4, I4, w4, q4⟩ => ?_)
    refine wpAny_bind (thnF (hxe ▸ pt.run _ s4 σ4 H4 _ I4 q4) fun b s5 ⟨H5, I5, q5⟩ => ?_)
    refine thnF (rest Nx _ σ4 b H5 s5 (Keeps.of_wipe w4) I5 q5) fun f s6 ⟨hf, σ6, H6, I6, k6, nx⟩ => ?_
    subst hf
    obtain ⟨m', hm, w'⟩ := hNx H6 nx
    have pin : ∀ b ∈ fp, ∀ o, s2.heap.get? b = some o → s6.heap.get? b = some o ∧ H6 b = none := fun b hb o e =>
      let z := I6.pin (b, o) (List.mem_append_right _ (List.mem_append_right _ (mem_pinsAt hb e)))
      ⟨z.1, z.2.1⟩
    exact ⟨rfl, m', hm, i + 1, H6, I6.unpinned.weak k6.1 k6.2, T.keep _ _ _ st2 fun b hb o e => (pin b hb o e).1, fun b hb => let ⟨o, e, _⟩ := T.obj _ _ st2 b hb; (pin b hb o e).2, w'⟩
/-- the new dict: of which kind its keys are to be -/
inductive DNew : HO → Prop
  | k : DNew (.dK [])
  | t : DNew (.dT [])
theorem DNew.ok {o : HO} (n : DNew o) {P : Program} {w : World} {H : Hp} (h : Heap) (hb : sysModules < h.objs.size) : ObjOk P w H (h.push { cls := .type "dict", data := .dict #[] }) h.objs.size o := by
  cases n
  · exact dk_empty h hb
  · exact dt_empty h hb
/-- behind the second clause's target and tests -/
def d2In (D : Addr) (tk tv : TE) (Nx : Hp → Prop) (σ : L2.St) (b : Bool) (H : Hp) : Prop := if b = true then tk σ H fun y H7 => tv σ H7 fun z H8 => ∃ H9, DPut H8 D y z H9 ∧ Nx H9 else Nx H
/-- behind the first clause's -/
def d2Out (D : Addr) (wi1 : TI) (g1 : TG) (tt1 : TT) (tk tv : TE) (ws1 : List Nat) (Nx : Hp → Prop) (σ : L2.St) (b : Bool) (H : Hp) : Prop := if b = true then wi1 σ H fun J H4 => ∃ W : Nat → Nat → Hp → Prop, (∃ m, W 0 m H4) ∧ ∀ j k H, W j k H → (J.stop j H ∧ Nx H) ∨
      (J.go j H ∧ ∃ Ny : Hp → Prop, (∀ H', Ny H' → ∃ k', k' < k ∧ W (j + 1) k' H') ∧ ∀ x H', J.yld j H x H' → g1 x (L2.wipe σ ws1) H' fun σ3 H5 => L2.wipe σ3 ws1 = L2.wipe σ ws1 ∧ tt1 σ3 H5 (d2In D tk tv Ny σ3))
    else Nx H
/-- {k: v for tg in .. for tg1 in ..}; ws the block's names, ws1 those of the second target -/
def tDc2 (o0 : HO) (wi : TI) (g : TG) (tt : TT) (wi1 : TI) (g1 : TG) (tt1 : TT) (tk tv : TE) (ws ws1 : List Nat) : TE := fun σ H Q => wi σ H fun J H1 => ∀ D, H1 D = none → ∃ W : Nat → Nat → Hp → Prop, (∃ m, W 0 m (upd H1 D o0)) ∧ ∀ i m H, W i m H →
  (J.stop i H ∧ Q (.ref D) H) ∨ (J.go i H ∧ ∃ Nx : Hp → Prop, (∀ H', Nx H' → ∃ m', m' < m ∧ W (i + 1) m' H') ∧ ∀ x H', J.yld i H x H' → g x (L2.wipe σ ws) H' fun σ2 H2 => L2.wipe σ2 ws = L2.wipe σ ws ∧ tt σ2 H2 (d2Out D wi1 g1 tt1 tk tv ws1 Nx σ2))
theorem d_putIn {X : Cx} {pins : List (Addr × Obj)} {σ : L2.St} {H H' : Hp} {s : Shared} {E : Value → Shared → Prop} {D : Addr} {y v : V} {u r : Value} {Q : Unit → Shared → Prop} (hu : X.A.units + 1 < cLine) (I : Inv X pins σ H s) (g : DPut H D y v H') (ry : RelV y u) (rv : RelV v r)
    (h : ∀ s', Inv X pins σ H' s' → Q () s') : wpAny (model X.prog X.w) X.A (dictSet D u r) Q E s := by
  rcases g with ⟨kvs, k, e, rfl, l, rfl⟩ | ⟨kvs, k, b, e, rfl, eb, l, rfl⟩
  · exact d_dictSet I e l ry rv h
  · obtain rfl : u = Value.ref b := ry
    obtain ⟨z, hd, xs, rel, dd⟩ := dt_of I.hok e
    have len := length_putK kvs k v
    refine wpAny_dictSet_heap (hsz := by rw [← Paired.length rel]; exact z) (show X.A.units < cLine from by omega) (key_of I.hok eb) dd fun h' dd' same => h _ ?_
    obtain ⟨q, es, ep, q1, q2, q3, q4, _, q5⟩ := dd'
    refine d_write I (by rw [e]; exact True.intro) same ⟨q, q1⟩ ⟨by omega, hd, _, (rel.put k eb rv).keeps fun c ys ec => ?_, q, es, ep, q1, q2, q3, q4, q5⟩
    exact (upd_ne (ne_of ec e (fun z => nomatch z))).trans ec
theorem dc2_start {prog : Program} {w : World} {A : Around} {R : Result → Shared → Prop} {s : Shared} {kx vx t0 i0 t1 i1 : Expr} {f0 f1 : List Expr} {scope : Scope} {pos : Pos} {it acc : Value} {env : Env}
    (ready : codeAny (model prog w) A (.compLoop (d2 kx vx t0 i0 t1 i1 f0 f1 scope pos) 1 it acc env) R s)
    (anew : wpAny (model prog w) A (pyIter it) (fun i s' => codeAny (model prog w) A (.compLoop (d2 kx vx t0 i0 t1 i1 f0 f1 scope pos) 1 i acc env) R s') (notedBy (model prog w) A env fun x s' => R (.error x) s') s) :
    codeAny (model prog w) A (.compStart (d2 kx vx t0 i0 t1 i1 f0 f1 scope pos) 1 it acc env) R s := by
  refine codeAny_of_tree (show wpAny _ _ ((compStart (d2 kx vx t0 i0 t1 i1 f0 f1 scope pos) 1 it acc env).onRaise _) _ _ s from wpAny_notedAt ?_)
  unfold compStart
  refine wpAny_bind (m := ask) (wpAny_askSetting (wpAny_ite ?_))
  split
  · exact wpAny_pure ⟨rfl, ready⟩
  · refine wpAny_bind (wpAny_rule ?_)
    refine wpAny_bind (m := standAt i1.pos) (wpAny_standAt (wpAny_bind (wpAny_mono anew (fun _ _ k => wpAny_pure ⟨rfl, k⟩) fun _ _ e => e)))
theorem dc2_core {X : Cx} {kx vx t0 i0 t1 i1 : Expr} {f0 f1 : List Expr} {scope : Scope} {own : List (Str × Nat)} {ws1 : List Nat} {pos : Pos} {o0 : HO} {wi wi1 : TI} {g g1 : TG} {tt tt1 : TT} {tk tv : TE} {pos' : Pos} {pins : List (Addr × Obj)} {s : Shared} {σ : L2.St} {H : Hp} {Q : VK} {use : Option (Value → Sem Unit)} {Qf : Value → Shared → Prop} (I : Inv X pins σ H s) (h : tDc2 o0 wi g tt wi1 g1 tt1 tk tv (own.map (·.2)) ws1 σ H Q)
    (post : ∀ D C s' m H', Inv X pins σ H' s' → Q (.ref D) H' → s'.heap.Ns C m → FpOk X pins H' C → compPost (model X.prog X.w) X.A X.xe use Qf (.ref D) C (.ok .next) s')
    (hs : ∀ x, foldedSetIterable i0 X.env x = pure x) (hs1 : ∀ env x, foldedSetIterable i1 env x = pure x) (nw : DNew o0) (hu : X.A.units + 1 < cLine) (hc : X.calm = true) (hN : X.N.Nodup) (hi : PI X t0 i0 wi) (ok : BlkOk X.N X.env.scope scope own) (hv : ∀ i ∈ ws1, i ∈ own.map (·.2))
    (hg : ∀ (s : Shared) (H : Hp) (C : Addr) (cl : List (Str × Addr)) (fp : List Addr), PG (X.blk s H scope (compEnvC scope cl C X.env) fp) t0 g)
    (ht : ∀ (s : Shared) (H : Hp) (C : Addr) (cl : List (Str × Addr)) (fp : List Addr), PTs (X.blk s H scope (compEnvC scope cl C X.env) fp) f0 tt)
    (hi1 : ∀ (s : Shared) (H : Hp) (C : Addr) (cl : List (Str × Addr)) (fp : List Addr), PI (X.blk s H scope (compEnvC scope cl C X.env) fp) t1 i1 wi1)
    (hg1 : ∀ (s : Shared) (H : Hp) (C : Addr) (cl : List (Str × Addr)) (fp : List Addr), PG (X.blk s H scope (compEnvC scope cl C X.env) fp) t1 g1)
    (ht1 : ∀ (s : Shared) (H : Hp) (C : Addr) (cl : List (Str × Addr)) (fp : List Addr), PTs (X.blk s H scope (compEnvC scope cl C X.env) fp) f1 tt1)
    (hk : ∀ (s : Shared) (H : Hp) (C : Addr) (cl : List (Str × Addr)) (fp : List Addr), PE (X.blk s H scope (compEnvC scope cl C X.env) fp) kx tk)
    (he : ∀ (s : Shared) (H : Hp) (C : Addr) (cl : List (Str × Addr)) (fp : List Addr), PE (X.blk s H scope (compEnvC scope cl C X.env) fp) vx tv) :
    wpAny (model X.prog X.w) X.A (comprehension (d2 kx vx t0 i0 t1 i1 f0 f1 scope pos) scope X.env pos' newDict false (eval i0 X.env) use) Qf X.xe s := by
  have clo : ∀ y ∈ scope.names, y.2 = .free → ∃ c, X.env.cells.lookup y.1 = some c := fun y hy e => (ok.free y hy e).elim (fun k => I.ok.has _ (.inl k)) fun k => I.ok.has _ (.inr k)
  refine wpAny_comprehension_free (use := use) rfl hs (closure_ok clo) ok.kind (fun y hy e => (ok.uniq y hy).trans (congrArg some e)) (thn (hi.run pins s σ H _ I h) fun xv s1 hx => thn hx fun itv s2 ⟨it, fp, tn, J, H2, e, I2, T, st2, f2, q⟩ => ?_)
  subst e
  refine wpAny_newObj_type (newEnv_comp ?_)
  -- the new dict's place
  have hDn : H2 s2.heap.objs.size = none := I2.hok.fresh (Nat.le_refl _)
  obtain ⟨W, ⟨m0, w0⟩, turn⟩ := q _ hDn
  let s3 : Shared := { s2 with heap := s2.heap.push { cls := .type "dict", data := .dict #[] } }
  have grow : ∀ b o, s2.heap.get? b = some o → s3.heap.get? b = some o := fun b o e => Heap.get?_push_of_some _ e
  have I3 : Inv X pins σ (upd H2 s2.heap.objs.size o0) s3 := I2.laid (t' := s2.toks) grow (Nat.le_refl _) (nw.ok s2.heap I2.big)
  have f3 : ∀ b ∈ fp, FpOk X pins (upd H2 s2.heap.objs.size o0) b ∧ b < s3.heap.objs.size := fun b hb => by
    obtain ⟨o, e, _⟩ := T.obj _ _ st2 b hb
    have lt := Heap.lt_size e
    exact ⟨⟨(upd_ne (Nat.ne_of_lt lt)).trans (f2 b hb).1, (f2 b hb).2⟩, Heap.lt_size (grow b o e)⟩
  have st3 : tn 0 s3.heap := T.keep _ _ _ st2 fun b _ o e => grow b o e
  have I4 := block_start I3 ok hN f3
  let C := s3.heap.objs.size
  let ce := compEnvC scope (cellsFrom (C + 1) scope.names (cloFrom X.env.cells scope.names [])) C X.env
  show codeAny _ _ (.compStart (d2 kx vx t0 i0 t1 i1 f0 f1 scope pos) 0 (.ref it) (.ref s2.heap.objs.size) ce) (compPost (model X.prog X.w) X.A X.xe use Qf (.ref s2.heap.objs.size) C) { s3 with heap := pushCells (s3.heap.push { cls := .type "dict", data := .dict #[] }) scope.names }
  have I4 : Inv (X.blk s3 (upd H2 s2.heap.objs.size o0) scope ce fp) [] (L2.wipe σ (own.map (·.2))) (upd H2 s2.heap.objs.size o0) { s3 with heap := pushCells (s3.heap.push { cls := .type "dict", data := .dict #[] }) scope.names } := I4
  have st4 : tn 0 ({ s3 with heap := pushCells (s3.heap.push { cls := .type "dict", data := .dict #[] }) scope.names } : Shared).heap := T.keep _ _ _ st3 fun b _ o e => pushCells_keeps _ _ _ _ (Heap.get?_push_of_some _ e)
  have pg := hg s3 (upd H2 s2.heap.objs.size o0) C (cellsFrom (C + 1) scope.names (cloFrom X.env.cells scope.names [])) fp
  have pt := ht s3 (upd H2 s2.heap.objs.size o0) C (cellsFrom (C + 1) scope.names (cloFrom X.env.cells scope.names [])) fp
  have pi := hi1 s3 (upd H2 s2.heap.objs.size o0) C (cellsFrom (C + 1) scope.names (cloFrom X.env.cells scope.names [])) fp
  have pg1 := hg1 s3 (upd H2 s2.heap.objs.size o0) C (cellsFrom (C + 1) scope.names (cloFrom X.env.cells scope.names [])) fp
  have pt1 := ht1 s3 (upd H2 s2.heap.objs.size o0) C (cellsFrom (C + 1) scope.names (cloFrom X.env.cells scope.names [])) fp
  have pk := hk s3 (upd H2 s2.heap.objs.size o0) C (cellsFrom (C + 1) scope.names (cloFrom X.env.cells scope.names [])) fp
  have pe := he s3 (upd H2 s2.heap.objs.size o0) C (cellsFrom (C + 1) scope.names (cloFrom X.env.cells scope.names [])) fp
  have cL : ce.locals = C := rfl
  generalize ({ s3 with heap := pushCells (s3.heap.push { cls := .type "dict", data := .dict #[] }) scope.names } : Shared) = s4 at I4 st4 ⊢
  have nf3 : ∀ b ∈ fp, upd H2 s2.heap.objs.size o0 b = none := fun b hb => (f3 b hb).1.1
  generalize upd H2 s2.heap.objs.size o0 = H3 at *
  clear_value s3
  have loop : codeAny (model X.prog X.w) X.A (.compLoop (d2 kx vx t0 i0 t1 i1 f0 f1 scope pos) 0 (.ref it) (.ref s2.heap.objs.size) ce) (compPost (model X.prog X.w) X.A X.xe use Qf (.ref s2.heap.objs.size) C) s4 := by
    refine clause_loop (Y := X.blk s3 H3 scope ce fp) (pins := []) (σ := σ) (ws := own.map (·.2)) (sem := compTurn (d2 kx vx t0 i0 t1 i1 f0 f1 scope pos) 0 (.ref it) (.ref s2.heap.objs.size) ce) (W := W) (n0 := m0) (Z := d2Out s2.heap.objs.size wi1 g1 tt1 tk tv ws1) rfl rfl rfl outTurn T hc pg pt rfl ?stat (fun i m H w => ?steps) ?rest I4 st4 nf3 w0
    case stat =>
      intro σ' H' s' I' nf b hb
      exact ⟨nf b hb, (I'.ok.exf b hb).1, I'.ok.exfs b hb, .inl hb, fun x c e => (I'.ok.exf b hb).2 x c e, fun p hp => nomatch (show p ∈ ([] : List (Addr × Obj)) from hp)⟩
    case steps =>
      rcases turn i m H w with ⟨stop, qq⟩ | go
      · refine .inl ⟨stop, fun s' I' => ?_⟩
        have I7 : Inv X pins σ H s' := I3.call' (ch := fp) I'.os I'.base I'.hok I'.bare fun b hb => ⟨(f3 b hb).1.2.2.2.1, (f3 b hb).1.2.1, (f3 b hb).1.2.2.2.2.1, (f3 b hb).1.2.2.2.2.2⟩
        have nC : H C = none := I'.free
        obtain ⟨k, hk, _⟩ := I'.loc
        exact post _ C s' k H I7 qq hk (I3.fpOk (Nat.le_refl C) nC)
      · exact .inr go
    case rest =>
      intro Nx pn σ2 b H5 s5 k5 I5 q5
      cases b with
      | false => exact wpAny_pure ⟨rfl, σ2, H5, I5, k5, (if_neg Bool.false_ne_true).mp q5⟩
      | true =>
        have q5 := (if_pos rfl).mp q5
        refine wpAny_bind (thnF (pi.run _ s5 σ2 H5 _ I5 q5) fun xv s6 hx => wpAny_bind (wpAny_standAt (wpAny_bind (wpAny_of_eq (hs1 ce xv) (wpAny_bind (wpAny_holding (thnF hx fun itv s7 h7 => ?_)))))))
        obtain ⟨jt, fq, tm, J1, H7, e7, I7, T1, st7, f7, W1, ⟨m1, w1⟩, turn1⟩ := h7
        subst e7
        refine wpAny_bind (wpAny_runOwn ?_)
        rw [Around.mark_none]
        have inner : codeAny (model X.prog X.w) X.A (.compLoop (d2 kx vx t0 i0 t1 i1 f0 f1 scope pos) 1 (.ref jt) (.ref s2.heap.objs.size) ce) (fun r s' => match r with
            | .ok _ => ∃ σ' H', Inv (X.blk s3 H3 scope ce fp) ([] ++ pn) σ' H' s' ∧ Keeps (L2.wipe σ (own.map (·.2))) σ' ∧ Nx H'
            | .error _ => False) s7 := by
          refine clause_loop (Y := X.blk s3 H3 scope ce fp) (pins := [] ++ pn) (σ := σ2) (ws := ws1) (sem := compTurn (d2 kx vx t0 i0 t1 i1 f0 f1 scope pos) 1 (.ref jt) (.ref s2.heap.objs.size) ce) (W := W1) (n0 := m1) (Z := d2In s2.heap.objs.size tk tv) rfl rfl rfl inTurn T1 hc pg1 pt1 rfl
            (fun _ nf b hb => ⟨nf b hb, (f7 b hb).2⟩) (fun j k H w => ?_) ?_ (I7.weak (wipe_length _ _) (fun j v e => (wipe_some e).1)) st7 (fun b hb => (f7 b hb).1) w1
          · rcases turn1 j k H w with ⟨stop, nx⟩ | go
            · refine .inl ⟨stop, fun s' I' => ⟨_, H, I', ⟨k5.1.trans (wipe_length _ _).symm, fun j v e => ?_⟩, nx⟩⟩
              have out : j ∉ own.map (·.2) := (wipe_some e).2
              exact (wipe_out fun z => out (hv j z)).trans (k5.2 j v e)
            · exact .inr go
          · intro Ny pm σ3 b H8 s8 k8 I8 q8
            cases b with
            | false => exact wpAny_pure ⟨rfl, σ3, H8, I8, k8, (if_neg Bool.false_ne_true).mp q8⟩
            | true =>
              refine wpAny_bind (wpAny_bind (thnF (pk.run _ s8 σ3 H8 _ I8 ((if_pos rfl).mp q8)) fun a s9 ⟨ya, H9, I9, r9, q9⟩ => wpAny_bind (wpAny_holding (thnF (pe.run _ s9 σ3 H9 _ I9 q9) fun c s10 ⟨yc, H10, I10, r10, H11, put, ny⟩ => wpAny_bind (wpAny_standAt (wpAny_holding ?_))))))
              exact d_putIn (X := X.blk s3 H3 scope ce fp) hu I10 put r9 r10 fun s11 I11 => wpAny_pure ⟨rfl, σ3, H11, I11, k8, ny⟩
        refine codeAny_mono (dc2_start inner (T1.self X.A 0 _ _ _ st7 inner)) fun r s' hr => ?_
        cases r with
        | ok f => exact wpAny_pure ⟨rfl, hr⟩
        | error e => exact hr.elim
  exact codeAny_compStart_dict loop (T.self X.A 0 _ _ _ st4 loop)
theorem pe_dc2 {X : Cx} {kx vx t0 i0 t1 i1 : Expr} {f0 f1 : List Expr} {scope : Scope} {own : List (Str × Nat)} {ws1 : List Nat} {pos : Pos} {o0 : HO} {wi wi1 : TI} {g g1 : TG} {tt tt1 : TT} {tk tv : TE} (nw : DNew o0) (hu : X.A.units + 1 < cLine) (hc : X.calm = true) (hN : X.N.Nodup) (hi : PI X t0 i0 wi) (ok : BlkOk X.N X.env.scope scope own) (hv : ∀ i ∈ ws1, i ∈ own.map (·.2))
    (hg : ∀ (s : Shared) (H : Hp) (C : Addr) (cl : List (Str × Addr)) (fp : List Addr), PG (X.blk s H scope (compEnvC scope cl C X.env) fp) t0 g)
    (ht : ∀ (s : Shared) (H : Hp) (C : Addr) (cl : List (Str × Addr)) (fp : List Addr), PTs (X.blk s H scope (compEnvC scope cl C X.env) fp) f0 tt)
    (hi1 : ∀ (s : Shared) (H : Hp) (C : Addr) (cl : List (Str × Addr)) (fp : List Addr), PI (X.blk s H scope (compEnvC scope cl C X.env) fp) t1 i1 wi1)
    (hg1 : ∀ (s : Shared) (H : Hp) (C : Addr) (cl : List (Str × Addr)) (fp : List Addr), PG (X.blk s H scope (compEnvC scope cl C X.env) fp) t1 g1)
    (ht1 : ∀ (s : Shared) (H : Hp) (C : Addr) (cl : List (Str × Addr)) (fp : List Addr), PTs (X.blk s H scope (compEnvC scope cl C X.env) fp) f1 tt1)
    (hk : ∀ (s : Shared) (H : Hp) (C : Addr) (cl : List (Str × Addr)) (fp : List Addr), PE (X.blk s H scope (compEnvC scope cl C X.env) fp) kx tk)
    (he : ∀ (s : Shared) (H : Hp) (C : Addr) (cl : List (Str × Addr)) (fp : List Addr), PE (X.blk s H scope (compEnvC scope cl C X.env) fp) vx tv) (hs : ∀ x, foldedSetIterable i0 X.env x = pure x := by intro _; rfl) (hs1 : ∀ env x, foldedSetIterable i1 env x = pure x := by intro _ _; rfl) :
    PE X (d2 kx vx t0 i0 t1 i1 f0 f1 scope pos) (tDc2 o0 wi g tt wi1 g1 tt1 tk tv (own.map (·.2)) ws1) := ⟨fun pins s σ H Q I h => by
  rw [arm_eval_DictComp]
  refine dc2_core I h (fun D C s' m H' I' q hn f => ?_) hs hs1 nw hu hc hN hi ok hv hg ht hi1 hg1 ht1 hk he
  exact ⟨m, hn, fun h2 sb => ⟨.ref D, H', I'.turned (t' := s'.toks) (fun b o hb e => (sb.2 b hb).trans e) f.1 f.2.1 f.2.2.2.1 f.2.2.2.2.1 f.2.2.2.2.2, rfl, q⟩⟩⟩
/-- stored under a name: the block's place is let go behind the store -/
theorem stored_post {X : Cx} {pins : List (Addr × Obj)} {σ : L2.St} {H' : Hp} {s' : Shared} {i : Nat} {m : Str → Option Value} {y : Str} {py : Pos} {L C : Addr} {Ds : Ends} (hN : X.N.Nodup) (hy : X.N[i]? = some y) (hyl : X.env.scope.names.lookup y = some .local) (I' : Inv X pins σ H' s') (q : gName i (.ref L) σ H' Ds.nx) (hn : s'.heap.Ns C m) (f : FpOk X pins H' C) :
    compPost (model X.prog X.w) X.A X.xe (some (assign (.Name y py) X.env)) (fun _ s' => SP X pins Ds .next s') (.ref L) C (.ok .next) s' := by
  show wpAny _ X.A (assign (.Name y py) X.env (.ref L)) _ X.xe s'
  refine wpAny_assign_Name (store_ok2 (v := V.ref L) I' hN hy (.inl hyl) rfl (fun s2 I2 ⟨a, sb, ha⟩ => ?_) (.inr hyl))
  have ne : C ≠ a := fun e => ha.elim (fun z => f.2.1 (e.trans z)) fun z => f.2.2.2.2.1 y a z e.symm
  exact ⟨m, hn.sameBut sb ne, fun h3 sb3 => ⟨_, H', I2.turned (t' := s2.toks) (fun b o hb e => (sb3.2 b hb).trans e) f.1 f.2.1 f.2.2.2.1 f.2.2.2.2.1 f.2.2.2.2.2, q⟩⟩
theorem ps_setDc2 {X : Cx} {kx vx t0 i0 t1 i1 : Expr} {f0 f1 : List Expr} {scope : Scope} {own : List (Str × Nat)} {ws1 : List Nat} {pos : Pos} {o0 : HO} {wi wi1 : TI} {g g1 : TG} {tt tt1 : TT} {tk tv : TE} {i : Nat} {y : Str} {py spos : Pos} (hy : X.N[i]? = some y) (hyl : X.env.scope.names.lookup y = some .local) (hsw : swapsWith (d2 kx vx t0 i0 t1 i1 f0 f1 scope pos) (some (.Name y py)) spos.line X.env = pure true) (nw : DNew o0) (hu : X.A.units + 1 < cLine) (hc : X.calm = true) (hN : X.N.Nodup) (hi : PI X t0 i0 wi) (ok : BlkOk X.N X.env.scope scope own) (hv : ∀ i ∈ ws1, i ∈ own.map (·.2))
    (hg : ∀ (s : Shared) (H : Hp) (C : Addr) (cl : List (Str × Addr)) (fp : List Addr), PG (X.blk s H scope (compEnvC scope cl C X.env) fp) t0 g)
    (ht : ∀ (s : Shared) (H : Hp) (C : Addr) (cl : List (Str × Addr)) (fp : List Addr), PTs (X.blk s H scope (compEnvC scope cl C X.env) fp) f0 tt)
    (hi1 : ∀ (s : Shared) (H : Hp) (C : Addr) (cl : List (Str × Addr)) (fp : List Addr), PI (X.blk s H scope (compEnvC scope cl C X.env) fp) t1 i1 wi1)
    (hg1 : ∀ (s : Shared) (H : Hp) (C : Addr) (cl : List (Str × Addr)) (fp : List Addr), PG (X.blk s H scope (compEnvC scope cl C X.env) fp) t1 g1)
    (ht1 : ∀ (s : Shared) (H : Hp) (C : Addr) (cl : List (Str × Addr)) (fp : List Addr), PTs (X.blk s H scope (compEnvC scope cl C X.env) fp) f1 tt1)
    (hk : ∀ (s : Shared) (H : Hp) (C : Addr) (cl : List (Str × Addr)) (fp : List Addr), PE (X.blk s H scope (compEnvC scope cl C X.env) fp) kx tk)
    (he : ∀ (s : Shared) (H : Hp) (C : Addr) (cl : List (Str × Addr)) (fp : List Addr), PE (X.blk s H scope (compEnvC scope cl C X.env) fp) vx tv) (hs : ∀ x, foldedSetIterable i0 X.env x = pure x := by intro _; rfl) (hs1 : ∀ env x, foldedSetIterable i1 env x = pure x := by intro _ _; rfl) :
    PS X (.Assign [.Name y py] (d2 kx vx t0 i0 t1 i1 f0 f1 scope pos) spos) (tAsg (tDc2 o0 wi g tt wi1 g1 tt1 tk tv (own.map (·.2)) ws1) (gName i)) := ⟨fun pins s σ H Ds I h => by
  rw [exec_Assign_Name_used _ _ _ _ hsw]
  have h : tDc2 o0 wi g tt wi1 g1 tt1 tk tv (own.map (·.2)) ws1 σ H (fun x H1 => gName i x σ H1 Ds.nx) := h
  refine wpAny_bind (wpAny_standAt (wpAny_bind ?_))
  show wpAny _ X.A (comprehension (d2 kx vx t0 i0 t1 i1 f0 f1 scope pos) scope X.env (firstIterPos [⟨t0, i0, f0, 0⟩, ⟨t1, i1, f1, 0⟩] pos) newDict false (eval i0 X.env) (some (assign (.Name y py) X.env)) >>= fun _ => pure ()) _ _ s
  exact wpAny_bind (thn (dc2_core (Qf := fun _ s' => SP X pins Ds .next s') I h (fun D C s' m H' I' q hn f => stored_post hN hy hyl I' q hn f) hs hs1 nw hu hc hN hi ok hv hg ht hi1 hg1 ht1 hk he) fun _ s' hq => wpAny_pure (wpAny_pure hq))⟩
theorem ps_setDc {X : Cx} {kx vx tg iter : Expr} {ifs : List Expr} {scope : Scope} {own : List (Str × Nat)} {pos : Pos} {wi : TI} {g : TG} {tt : TT} {tk tv : TE} {i : Nat} {y : Str} {py spos : Pos} (hy : X.N[i]? = some y) (hyl : X.env.scope.names.lookup y = some .local) (hsw : swapsWith (.DictComp kx vx [⟨tg, iter, ifs, 0⟩] scope pos) (some (.Name y py)) spos.line X.env = pure true)
    (hc : X.calm = true) (hN : X.N.Nodup) (hi : PI X tg iter wi) (ok : BlkOk X.N X.env.scope scope own)
    (hg : ∀ (s : Shared) (H : Hp) (C : Addr) (cl : List (Str × Addr)) (fp : List Addr), PG (X.blk s H scope (compEnvC scope cl C X.env) fp) tg g)
    (ht : ∀ (s : Shared) (H : Hp) (C : Addr) (cl : List (Str × Addr)) (fp : List Addr), PTs (X.blk s H scope (compEnvC scope cl C X.env) fp) ifs tt)
    (hk : ∀ (s : Shared) (H : Hp) (C : Addr) (cl : List (Str × Addr)) (fp : List Addr), PE (X.blk s H scope (compEnvC scope cl C X.env) fp) kx tk)
    (he : ∀ (s : Shared) (H : Hp) (C : Addr) (cl : List (Str × Addr)) (fp : List Addr), PE (X.blk s H scope (compEnvC scope cl C X.env) fp) vx tv) (hs : ∀ x, foldedSetIterable iter X.env x = pure x := by intro _; rfl) :
    PS X (.Assign [.Name y py] (.DictComp kx vx [⟨tg, iter, ifs, 0⟩] scope pos) spos) (tAsg (tDc wi g tt tk tv (own.map (·.2))) (gName i)) := ⟨fun pins s σ H Ds I h => by
  rw [exec_Assign_Name_used _ _ _ _ hsw]
  have h : tDc wi g tt tk tv (own.map (·.2)) σ H (fun x H1 => gName i x σ H1 Ds.nx) := h
  refine wpAny_bind (wpAny_standAt (wpAny_bind ?_))
  show wpAny _ X.A (comprehension (.DictComp kx vx [⟨tg, iter, ifs, 0⟩] scope pos) scope X.env (firstIterPos [⟨tg, iter, ifs, 0⟩] pos) newDict false (eval iter X.env) (some (assign (.Name y py) X.env)) >>= fun _ => pure ()) _ _ s
  exact wpAny_bind (thn (dc_core (Qf := fun _ s' => SP X pins Ds .next s') hc hN I hi ok hg ht hk he hs h fun D C s' m H' I' q hn f => stored_post hN hy hyl I' q hn f) fun _ s' hq => wpAny_pure (wpAny_pure hq))⟩
theorem sw_dict {kx vx : Expr} {gs : List Comprehension} {scope : Scope} {pos py : Pos} {y : Str} {l : Nat} {env : Env} (hk : env.scope.kind = .function) (hy : env.scope.names.lookup y = some .local) (same : (py.line == pos.line) = true)
    (out : (scope.names.any fun (n, k) => n == y && (k == .local || k == .cell)) = false) : swapsWith (.DictComp kx vx gs scope pos) (some (.Name y py)) l env = pure true := by
  have e1 : env.kindOf y = some .local := hy
  have e2 : env.blockKind = .function := by unfold Env.blockKind; rw [hk]; rfl
  unfold swapsWith
  simp only [e2, e1, out, Expr.pos, same]
  rfl
end Fk

/-! Comprehensions with several fors; dict comprehensions. -/
namespace Vi
open PySem PySem.Spec PyProof.Rows L2 Fk
/-- a walk's invariant by turns, from what a turn does -/
theorem walk_it {J : It} {n : Nat} {G : Hp → Prop} {Y : Nat → Hp → V → Hp → Prop} (w : Walk J n G Y) (Pv : Nat → Hp → Prop) {H0 : Hp} {S : Hp → Prop} {B : (Hp → Prop) → V → Hp → Prop} (h0 : Pv 0 H0) (hG : ∀ i H, i ≤ n → Pv i H → G H)
    (step : ∀ i x H H', i < n → Pv i H → Y i H x H' → B (Pv (i + 1)) x H') (fin : ∀ H, Pv n H → S H) :
    ∃ W : Nat → Nat → Hp → Prop, (∃ m, W 0 m H0) ∧ ∀ i m H, W i m H → (J.stop i H ∧ S H) ∨ (J.go i H ∧ ∃ Nx : Hp → Prop, (∀ H', Nx H' → ∃ m', m' < m ∧ W (i + 1) m' H') ∧ ∀ x H', J.yld i H x H' → B Nx x H') := by
  refine ⟨fun i m H => m = n - i ∧ i ≤ n ∧ Pv i H, ⟨n, rfl, Nat.zero_le _, h0⟩, fun i m H ⟨e, le, p⟩ => ?_⟩
  have g := hG i H le p
  by_cases lt : i < n
  · exact .inr ⟨w.goes i H lt g, Pv (i + 1), fun H' p' => ⟨n - (i + 1), by omega, rfl, lt, p'⟩, fun x H' y => step i x H H' lt p (w.yields i H x H' lt g y)⟩
  · obtain rfl : i = n := by omega
    exact .inl ⟨w.stops H g, fin H p⟩
/-- what a comprehension's innermost clause does with the thing at D -/
abbrev TEm := Addr → (Hp → Prop) → L2.St → Hp → Prop
def AccAt (C : VC) (R : Res) (D : Addr) (acc : T) (H : Hp) : Prop := ∃ o, H D = some o ∧ FrAt C (R.add D) acc o H
def SEm (C : VC) (E : XK) (em : TEm) (e : Env → T → Prog T) : Prop := ∀ (R : Res) (D : Addr) (σ : L2.St) (H : Hp) (ρ : Env) (Φ : T → Prop) (Ψ : XP) (acc : T), D ∉ R.D ∧ D ∉ R.h → SlE C (R.add D) ρ σ H → XOk C E (R.add D) Ψ H → (R.add D).J H → AccAt C R D acc H →
  (e ρ acc).All Φ Ψ → ∀ Nx : Hp → Prop, (∀ H' acc', Gr (R.add D) H H' → (∀ x, x ∈ R.h → H' x = H x) → AccAt C R D acc' H' → Φ acc' → Nx H') → em D Nx σ H
def emL (te : TE) : TEm := fun D Nx σ H => te σ H fun y H7 => ∃ acc, H7 D = some (.lst acc) ∧ acc.length < sizeLine ∧ Nx (upd H7 D (.lst (acc ++ [y])))
def eL (m : M T) : Env → T → Prog T := fun ρ acc => match acc with
  | .lst xs => (m ρ).bind fun v => if xs.length < 1000000 then .ret (.lst (xs ++ [v])) else .fail
  | _ => .fail
def emK (tk tv : TE) : TEm := fun D Nx σ H => tk σ H fun y H4 => tv σ H4 fun z H5 => ∃ kvs k, y = kV k ∧ H5 D = some (.dK kvs) ∧ kvs.length < sizeLine ∧ Nx (upd H5 D (.dK (putK kvs k z)))
def emD (tk tv : TE) : TEm := fun D Nx σ H => tk σ H fun y H7 => tv σ H7 fun z H8 => ∃ H9, DPut H8 D y z H9 ∧ Nx H9
def putD (acc k v : T) : Option T := match acc with
  | .dK ks us => (toKS k).bind fun q => if ks.length < 1000000 then some (.dK (putT ks us q v).1 (putT ks us q v).2) else none
  | .dT ks us => (keyT k).bind fun q => if ks.length < 1000000 then some (.dT (putT ks us q v).1 (putT ks us q v).2) else none
  | _ => none
def eD (mk mv : M T) : Env → T → Prog T := fun ρ acc => (mk ρ).bind fun k => (mv ρ).bind fun v => opt (putD acc k v)
def emCl (wi : TI) (g : TG) (tt : TT) (ws : List Nat) (em : TEm) : TEm := fun D Nx σ H => wi σ H fun J H4 => ∃ W : Nat → Nat → Hp → Prop, (∃ m, W 0 m H4) ∧ ∀ j k H, W j k H → (J.stop j H ∧ Nx H) ∨
  (J.go j H ∧ ∃ Ny : Hp → Prop, (∀ H', Ny H' → ∃ k', k' < k ∧ W (j + 1) k' H') ∧ ∀ x H', J.yld j H x H' → g x (L2.wipe σ ws) H' fun σ3 H5 => L2.wipe σ3 ws = L2.wipe σ ws ∧ tt σ3 H5 fun b H6 => if b = true then em D Ny σ3 H6 else Ny H6)
def foldP (f : T → T → Prog T) : List T → T → Prog T
  | [], a => .ret a
  | t :: ts, a => (f t a).bind (foldP f ts)
def clStep (f : T → Env → Option Env) (mb : M Bool) (e : Env → T → Prog T) (ρ : Env) : T → T → Prog T := fun t acc => match f t ρ with
  | none => .fail
  | some ρ1 => (mb ρ1).bind fun b => if b = true then e ρ1 acc else .ret acc
def eCl (ws : List Nat) (ms : M (List T)) (f : T → Env → Option Env) (mb : M Bool) (e : Env → T → Prog T) : Env → T → Prog T := fun ρ acc => (ms ρ).bind fun ts => if ts.length ≤ 1000000 then foldP (clStep f mb e (wipeE ρ ws)) ts acc else .fail
/-- the whole, the new thing being of the kind o0 -/
def tX (o0 : HO) (wi : TI) (g : TG) (tt : TT) (ws : List Nat) (em : TEm) : TE := fun σ H Q => wi σ H fun J H1 => ∀ D, H1 D = none → ∃ W : Nat → Nat → Hp → Prop, (∃ m, W 0 m (upd H1 D o0)) ∧ ∀ i m H, W i m H → (J.stop i H ∧ Q (.ref D) H) ∨
  (J.go i H ∧ ∃ Nx : Hp → Prop, (∀ H', Nx H' → ∃ m', m' < m ∧ W (i + 1) m' H') ∧ ∀ x H', J.yld i H x H' → g x (L2.wipe σ ws) H' fun σ2 H2 => L2.wipe σ2 ws = L2.wipe σ ws ∧ tt σ2 H2 fun b H3 => if b = true then em D Nx σ2 H3 else Nx H3)
def vX (t0 : T) (ws : List Nat) (ms : M (List T)) (f : T → Env → Option Env) (mb : M Bool) (e : Env → T → Prog T) : M T := fun ρ => eCl ws ms f mb e ρ t0
theorem tLc2_eq {wi wi1 : TI} {g g1 : TG} {tt tt1 : TT} {te : TE} {ws ws1 : List Nat} : tLc2 wi g tt wi1 g1 tt1 te ws ws1 = tX (.lst []) wi g tt ws (emCl wi1 g1 tt1 ws1 (emL te)) := rfl
theorem tDc_eq {wi : TI} {g : TG} {tt : TT} {tk tv : TE} {ws : List Nat} : tDc wi g tt tk tv ws = tX (.dK []) wi g tt ws (emK tk tv) := rfl
theorem tDc2_eq {o0 : HO} {wi wi1 : TI} {g g1 : TG} {tt tt1 : TT} {tk tv : TE} {ws ws1 : List Nat} : tDc2 o0 wi g tt wi1 g1 tt1 tk tv ws ws1 = tX o0 wi g tt ws (emCl wi1 g1 tt1 ws1 (emD tk tv)) := rfl
section
variable {C : VC} {E : XK} {R : Res} {H H1 H2 H' : Hp} {σ : L2.St} {D : Addr} {acc t k v : T} {ws : List Nat} {te tk tv : TE} {tt : TT} {wi : TI} {g : TG} {m mk mv : M T} {mb : M Bool} {f : T → Env → Option Env} {em : TEm} {e : Env → T → Prog T} {ms : M (List T)} {x y : V}
theorem AccAt.gv (h : AccAt C R D acc H) (g : Gv (R.add D) H H') : AccAt C R D acc H' := let ⟨o, e, f⟩ := h; ⟨o, (g.2 D List.mem_cons_self).trans e, FrAt.gr g.1 f⟩
theorem off_h (hd : D ∉ R.D ∧ D ∉ R.h) {o : HO} : ∀ x, x ∈ R.h → (upd H D o) x = H x := fun x hx => L2.upd_ne fun z => hd.2 (by rw [← z]; exact hx)
theorem putD_ok (hd : D ∉ R.D ∧ D ∉ R.h) (j : (R.add D).J H) (a : AccAt C R D acc H) (rk : Rep C (R.add D) k y H) (rv : Rep C (R.add D) v x H) {acc' : T} (e : putD acc k v = some acc') :
    ∃ o, DPut H D y x (upd H D o) ∧ AccAt C R D acc' (upd H D o) ∧ Gr (R.add D) H (upd H D o) ∧ (∀ ks us, acc = .dK ks us → ∃ kvs q, y = kV q ∧ H D = some (.dK kvs) ∧ kvs.length < sizeLine ∧ o = .dK (putK kvs q x)) := by
  obtain ⟨o, ho, fa⟩ := a
  cases acc with
  | dK ks us =>
    obtain ⟨kvs, rfl, hk, hr⟩ := fa
    obtain ⟨q, eq, e2⟩ := Option.bind_eq_some_iff.mp (show (toKS k).bind _ = some acc' from e)
    by_cases l : ks.length < 1000000
    · rw [if_pos l] at e2
      cases e2
      have lk : kvs.length = ks.length := by have := congrArg List.length hk; simpa using this
      have gm : Gr (R.add D) H (upd H D (.dK (putK kvs q.key x))) := add_mut hd (Gr.refl j)
      have r2 := putT_ok (f := KS.key) (fun a b => key_inj) (ks := ks) (k := q) (rv.gr gm) hk (Reps.gr gm hr)
      have ey := toKS_rep eq rk
      subst ey
      exact ⟨_, DPut.k ho (small_line (by omega)), ⟨_, upd_same, _, rfl, r2.1, r2.2⟩, gm, fun _ _ _ => ⟨kvs, _, rfl, ho, small_line (by omega), rfl⟩⟩
    · rw [if_neg l] at e2; exact nomatch e2
  | dT ks us =>
    obtain ⟨kvs, rfl, hk, hr⟩ := fa
    obtain ⟨q, eq, e2⟩ := Option.bind_eq_some_iff.mp (show (keyT k).bind _ = some acc' from e)
    by_cases l : ks.length < 1000000
    · rw [if_pos l] at e2
      cases e2
      have lk : kvs.length = ks.length := by have := congrArg List.length hk; simpa using this
      cases k with
      | tup as =>
        cases rk with
        | @tup b ys us hb hys =>
          have eb : H b = some (.tup ((q.map KS.key).map kV)) := by
            have := hb H (Gr.refl j)
            rw [toKSs_rep eq hys] at this
            exact this
          have gm : Gr (R.add D) H (upd H D (.dT (putK kvs (q.map KS.key) x))) := add_mut hd (Gr.refl j)
          have r2 := putT_ok (f := fun x : List KS => x.map KS.key) (fun a b => keys_inj) (ks := ks) (k := q) (rv.gr gm) hk (Reps.gr gm hr)
          exact ⟨_, DPut.t ho eb (small_line (by omega)), ⟨_, upd_same, _, rfl, r2.1, r2.2⟩, gm, fun _ _ z => nomatch z⟩
      | _ => exact nomatch eq
    · rw [if_neg l] at e2; exact nomatch e2
  | _ => exact nomatch e
theorem sem_L (h : SE C E te m) : SEm C E (emL te) (eL m) := fun R D σ H ρ Φ Ψ acc hd hs hx j a hA Nx k => by
  cases acc with
  | lst us =>
    refine h (R.add D) σ H ρ _ Ψ hs hx (all_bind.mp hA) H (Gr.refl j) _ fun v H2 g ⟨u, pu, ru⟩ => ?_
    by_cases l : us.length < 1000000
    · rw [if_pos l] at pu
      obtain ⟨o, ho, xs, rfl, hr⟩ := a.gv g
      have lx := Rps.len hr
      have gm : Gr (R.add D) H2 (upd H2 D (.lst (xs ++ [v]))) := add_mut hd (Gr.refl g.1.1)
      exact ⟨xs, ho, small_line (by rw [lx]; omega), k _ (.lst (us ++ [u])) (g.1.tr gm) (fun x hx => (off_h hd x hx).trans (g.2 x (List.mem_cons_of_mem _ hx))) ⟨_, upd_same, xs ++ [v], rfl, Rps.app (Reps.gr gm hr) (.cons (ru.gr gm) .nil)⟩ pu⟩
    · rw [if_neg l] at pu; exact pu.elim
  | _ => exact hA.elim
theorem sem_D (hk : SE C E tk mk) (hv : SE C E tv mv) : SEm C E (emD tk tv) (eD mk mv) := fun R D σ H ρ Φ Ψ acc hd hs hx j a hA Nx k =>
  hk (R.add D) σ H ρ _ Ψ hs hx (all_bind.mp hA) H (Gr.refl j) _ fun y H2 g ⟨u, pu, ru⟩ =>
    hv (R.add D) σ H ρ _ Ψ hs hx (all_bind.mp pu) H2 g.1 _ fun z H3 g3 ⟨w, pw, rw'⟩ => by
      obtain ⟨acc', e, pa⟩ := all_opt.mp pw
      have gg := g.trans g3
      obtain ⟨o, put, a', gm, _⟩ := putD_ok hd g3.1.1 (a.gv gg) (ru.gr g3.1) rw' e
      exact ⟨_, put, k _ _ (gg.1.tr gm) (fun x hx => (off_h hd x hx).trans (gg.2 x (List.mem_cons_of_mem _ hx))) a' pa⟩
theorem sem_K (hk : SE C E tk mk) (hv : SE C E tv mv) : SEm C E (emK tk tv) (fun ρ acc => match acc with | .dK _ _ => eD mk mv ρ acc | _ => .fail) := fun R D σ H ρ Φ Ψ acc hd hs hx j a hA Nx k => by
  cases acc with
  | dK ks us =>
    exact hk (R.add D) σ H ρ _ Ψ hs hx (all_bind.mp hA) H (Gr.refl j) _ fun y H2 g ⟨u, pu, ru⟩ =>
      hv (R.add D) σ H ρ _ Ψ hs hx (all_bind.mp pu) H2 g.1 _ fun z H3 g3 ⟨w, pw, rw'⟩ => by
        obtain ⟨acc', e, pa⟩ := all_opt.mp pw
        have gg := g.trans g3
        obtain ⟨o, put, a', gm, isK⟩ := putD_ok hd g3.1.1 (a.gv gg) (ru.gr g3.1) rw' e
        obtain ⟨kvs, q, ey, ho, l, eo⟩ := isK _ _ rfl
        subst eo
        exact ⟨kvs, q, ey, ho, l, k _ _ (gg.1.tr gm) (fun x hx => (off_h hd x hx).trans (gg.2 x (List.mem_cons_of_mem _ hx))) a' pa⟩
  | _ => exact hA.elim
/-- a turn of a clause -/
theorem cl_turn (hg : SGE C g ws f) (hb : ST C E tt mb) (he : SEm C E em e) {Φ : T → Prop} {Ψ : XP} {ρ : Env} (hd : D ∉ R.D ∧ D ∉ R.h) (hs : SlE C (R.add D) ρ σ H) (hx : XOk C E (R.add D) Ψ H) (g0 : Gr (R.add D) H H1) (a : AccAt C R D acc H1) (r : Rep C (R.add D) t x H1)
    (hA : (clStep f mb e (wipeE ρ ws) t acc).All Φ Ψ) {Nx : Hp → Prop} (k : ∀ H' acc', Gr (R.add D) H1 H' → (∀ x, x ∈ R.h → H' x = H1 x) → AccAt C R D acc' H' → Φ acc' → Nx H') :
    g x (L2.wipe σ ws) H1 fun σ3 H5 => L2.wipe σ3 ws = L2.wipe σ ws ∧ tt σ3 H5 fun b H6 => if b = true then em D Nx σ3 H6 else Nx H6 := by
  unfold clStep at hA
  cases hf : f t (wipeE ρ ws) with
  | none => rw [hf] at hA; exact hA.elim
  | some ρ1 =>
    rw [hf] at hA
    refine hg (R.add D) (L2.wipe σ ws) (wipeE ρ ws) ρ1 H1 x t g0.1 ((hs.wipe ws).gr g0) r hf _ fun σ5 h5 k5 l5 => ⟨(wipe_eq l5 k5).trans (wipe_eq (wipe_length _ _) fun j hj => wipe_get hj), ?_⟩
    refine hb (R.add D) σ5 H1 ρ1 _ Ψ h5 (hx.gr g0) (all_bind.mp hA) H1 (Gr.refl g0.1) _ fun b H6 g6 pb => ?_
    have same : ∀ x, x ∈ R.h → H6 x = H1 x := fun x hx => g6.2 x (List.mem_cons_of_mem _ hx)
    cases b with
    | false => exact (if_neg Bool.false_ne_true).mpr (k _ _ g6.1 same (a.gv g6) pb)
    | true => exact (if_pos rfl).mpr (he R D σ5 H6 ρ1 Φ Ψ acc hd (h5.gr g6.1) (hx.gr (g0.tr g6.1)) g6.1.1 (a.gv g6) pb Nx fun H' acc' g' s' a' p' => k H' acc' (g6.1.tr g') (fun x hx => (s' x hx).trans (same x hx)) a' p')
theorem sem_cl (hi : SI C E wi ms) (hg : SGE C g ws f) (hb : ST C E tt mb) (he : SEm C E em e) : SEm C E (emCl wi g tt ws em) (eCl ws ms f mb e) := fun R D σ H ρ Φ Ψ acc hd hs hx j a hA Nx k =>
  hi (R.add D) σ H ρ _ Ψ hs hx (all_bind.mp hA) H (Gr.refl j) _ fun J H2 G Y ts pt g2 W hG yl => by
    by_cases hl : ts.length ≤ 1000000
    · rw [if_pos hl] at pt
      refine walk_it W (fun i H' => Gr (R.add D) H2 H' ∧ (∀ x, x ∈ R.h → H' x = H2 x) ∧ ∃ acc, AccAt C R D acc H' ∧ (foldP (clStep f mb e (wipeE ρ ws)) (ts.drop i) acc).All Φ Ψ) ⟨Gr.refl g2.1.1, fun _ _ => rfl, acc, a.gv g2, pt⟩ (fun i H' _ p => hG H' p.1)
        (B := fun Ny x H' => g x (L2.wipe σ ws) H' fun σ3 H5 => L2.wipe σ3 ws = L2.wipe σ ws ∧ tt σ3 H5 fun b H6 => if b = true then em D Ny σ3 H6 else Ny H6) (fun i x H3 H4 hi p y => ?_) fun H' p => ?_
      · obtain ⟨g3, k3, acc3, a3, al⟩ := p
        obtain ⟨g4, r4⟩ := yl (R.add D) H3 H4 i x ts[i] (List.getElem?_eq_getElem hi) g3.1 (fun t v r => r.gr g3) y
        rw [List.drop_eq_getElem_cons hi] at al
        refine cl_turn hg hb he hd hs hx ((g2.1.tr g3).tr g4.1) (a3.gv g4) r4 (all_bind.mp al) fun H' acc' g' s' a' p' => ⟨(g3.tr g4.1).tr g', fun x hx => (s' x hx).trans ((g4.2 x (List.mem_cons_of_mem _ hx)).trans (k3 x hx)), acc', a', p'⟩
      · obtain ⟨g3, k3, acc3, a3, al⟩ := p
        rw [List.drop_length] at al
        exact k H' acc3 (g2.1.tr g3) (fun x hx => (k3 x hx).trans (g2.2 x (List.mem_cons_of_mem _ hx))) a3 al
    · rw [if_neg hl] at pt; exact pt.elim
theorem sf_X {o0 : HO} {t0 : T} (z : ∀ (R : Res) (H : Hp), FrAt C R t0 o0 H) (hi : SI C E wi ms) (hg : SGE C g ws f) (hb : ST C E tt mb) (he : SEm C E em e) : SF C E (tX o0 wi g tt ws em) (vX t0 ws ms f mb e) := fun R σ H ρ Φ Ψ hs hx hA H1 g1 Q k =>
  hi R σ H ρ _ Ψ hs hx (all_bind.mp hA) H1 g1 _ fun J H2 G Y ts pt g2 W hG yl => fun D hD => by
    by_cases hl : ts.length ≤ 1000000
    · rw [if_pos hl] at pt
      have hd := Fk.off g2.1.1 hD
      have hD1 : H1 D = none := by
        cases z : H1 D with
        | none => rfl
        | some u => rw [g2.1.2 D u z hd.1 hd.2] at hD; cases hD
      have g12 := g1.trans g2
      have hs2 : SlE C (R.add D) ρ σ H2 := (hs.gr g12).into hD hd
      have hx2 : XOk C E (R.add D) Ψ H2 := (hx.gr g12).into hD hd
      have gn : Gr (R.add D) H2 (upd H2 D o0) := add_new g2.1.1 hD
      refine walk_it W (fun i H' => Gr (R.add D) H2 H' ∧ (∀ x, x ∈ R.h → H' x = H2 x) ∧ ∃ acc, AccAt C R D acc H' ∧ (foldP (clStep f mb e (wipeE ρ ws)) (ts.drop i) acc).All Φ Ψ) ⟨gn, off_h hd, t0, ⟨o0, upd_same, z _ _⟩, pt⟩ (fun i H' _ p => hG H' (add_into hD p.1))
        (B := fun Ny x H' => g x (L2.wipe σ ws) H' fun σ3 H5 => L2.wipe σ3 ws = L2.wipe σ ws ∧ tt σ3 H5 fun b H6 => if b = true then em D Ny σ3 H6 else Ny H6) (fun i x H3 H4 hi p y => ?_) fun H' p => ?_
      · obtain ⟨g3, k3, acc3, a3, al⟩ := p
        obtain ⟨g4, r4⟩ := yl (R.add D) H3 H4 i x ts[i] (List.getElem?_eq_getElem hi) g3.1 (fun t v r => (r.into hD hd).gr g3) y
        rw [List.drop_eq_getElem_cons hi] at al
        refine cl_turn hg hb he hd hs2 hx2 (g3.tr g4.1) (a3.gv g4) r4 (all_bind.mp al) fun H' acc' g' s' a' p' => ⟨(g3.tr g4.1).tr g', fun x hx => (s' x hx).trans ((g4.2 x (List.mem_cons_of_mem _ hx)).trans (k3 x hx)), acc', a', p'⟩
      · obtain ⟨g3, k3, acc3, ⟨o3, e3, f3⟩, al⟩ := p
        rw [List.drop_length] at al
        have gv : Gv R H2 H' := ⟨add_into hD g3, k3⟩
        exact k D H' acc3 o3 hD1 (g2.trans gv) e3 f3 al
    · rw [if_neg hl] at pt; exact pt.elim
theorem sf_lc2 {wi1 : TI} {g1 : TG} {tt1 : TT} {ws1 : List Nat} {ms1 : M (List T)} {f1 : T → Env → Option Env} {mb1 : M Bool} (hi : SI C E wi ms) (hg : SGE C g ws f) (hb : ST C E tt mb) (hi1 : SI C E wi1 ms1) (hg1 : SGE C g1 ws1 f1) (hb1 : ST C E tt1 mb1) (he : SE C E te m) :
    SF C E (tLc2 wi g tt wi1 g1 tt1 te ws ws1) (vX (.lst []) ws ms f mb (eCl ws1 ms1 f1 mb1 (eL m))) := sf_X (o0 := .lst []) (fun _ _ => ⟨[], rfl, .nil⟩) hi hg hb (sem_cl hi1 hg1 hb1 (sem_L he))
theorem sf_dc (hi : SI C E wi ms) (hg : SGE C g ws f) (hb : ST C E tt mb) (hk : SE C E tk mk) (hv : SE C E tv mv) :
    SF C E (tDc wi g tt tk tv ws) (vX (.dK [] []) ws ms f mb fun ρ acc => match acc with | .dK _ _ => eD mk mv ρ acc | _ => .fail) := sf_X (o0 := .dK []) (fun _ _ => ⟨[], rfl, rfl, .nil⟩) hi hg hb (sem_K hk hv)
theorem sf_dc2 {wi1 : TI} {g1 : TG} {tt1 : TT} {ws1 : List Nat} {ms1 : M (List T)} {f1 : T → Env → Option Env} {mb1 : M Bool} (hi : SI C E wi ms) (hg : SGE C g ws f) (hb : ST C E tt mb) (hi1 : SI C E wi1 ms1) (hg1 : SGE C g1 ws1 f1) (hb1 : ST C E tt1 mb1) (hk : SE C E tk mk) (hv : SE C E tv mv) :
    SF C E (tDc2 (.dT []) wi g tt wi1 g1 tt1 tk tv ws ws1) (vX (.dT [] []) ws ms f mb (eCl ws1 ms1 f1 mb1 (eD mk mv))) := sf_X (o0 := .dT []) (fun _ _ => ⟨[], rfl, rfl, .nil⟩) hi hg hb (sem_cl hi1 hg1 hb1 (sem_D hk hv))
end
end Vi

/-! sorted of a tuple of texts. -/
namespace Fk
open PySem PySem.Spec PyProof.Rows L2
def rSortedU (K : PySem.W.Frag) : List V → Hp → VK → Prop := fun vs H Q => ∃ (a : Addr) (xs : List Str), vs = [V.ref a] ∧ SqT K H a (xs.map V.str) ∧ xs.length < 64 ∧ ∀ (ys : List Str) (p : Addr), ys.Perm xs → sortedS ys = true → H p = none → Q (.ref p) (upd H p (.lst (ys.map V.str)))
/-- behind the items' list: its sorting in place -/
theorem sort_rest {X : Cx} {pins : List (Addr × Obj)} {σ : L2.St} {H : Hp} {s1 : Shared} {Q : VK} {vs : List Value} {ks : List Str} {E : Value → Shared → Prop} (I1 : Inv X pins σ H s1) (hS : StrsAre vs ks) (h64 : ks.length < 64) (q : ∀ (ys : List Str) (p : Addr), ys.Perm ks → sortedS ys = true → H p = none → Q (.ref p) (upd H p (.lst (ys.map V.str)))) :
    wpAny (model X.prog X.w) X.A.in1 (do
      let l ← newList vs
      let _ ← holding [l] (call (.builtin "list.sort") [l])
      pure (Fin.done (.ret l))) (fun f s' => ∃ v, f = .done (.ret v) ∧ EP X pins σ Q v s') E s1 := by
  have len : vs.length = ks.length := hS.length
  obtain ⟨h', gn, d, tk, os⟩ := s1
  refine wpAny_bind (wpAny_newList ?_ (by rw [len, sizeLine_eq]; omega))
  have at' : (h'.push (seqObj "list" vs.toArray 0)).get? h'.objs.size = some (seqObj "list" vs.toArray 0) := Heap.get?_push_size _ rfl
  refine wpAny_bind (wpAny_holding (wpAny_call_entry PyProof.Rows.slot_list_sort ⟨_, at', rfl⟩ PyProof.Rows.entry_list_sort
    (list_sort_treeK strKind_oneLt (s := ⟨h'.push (seqObj "list" vs.toArray 0), gn, d, tk, os⟩) at' hS.keysOf (fun v₁ v₂ rest e => keyKind_strs (by rw [← e]; exact hS)) (by rw [len]; exact h64) fun st' hp hs => ⟨_, rfl, ?_⟩) (PyProof.Rows.args_list_sort _)))
  obtain ⟨ys, g1, g2, g3⟩ := sorted_out_str hS hp hs
  obtain ⟨e', he'⟩ := PyProof.Rows.sortedHeap_at (vs := vs) (out := (arrOf st').map (·.2)) at'
  have hl : (ys.map V.str).length ≤ sizeLine := by
    rw [List.length_map, g2.length_eq]
    exact Nat.le_trans (Nat.le_of_lt h64) (by decide)
  refine wpAny_pure ⟨_, rfl, .ref h'.objs.size, upd H h'.objs.size (.lst (ys.map V.str)), I1.laid (t' := tk) (fun b u e => ?_) (Nat.le_refl _) (show ObjOk X.prog X.w _ _ _ (.lst (ys.map V.str)) from ⟨hl, ((arrOf st').map (·.2)).toList, e', vals_of_strs g1, by rw [Array.toArray_toList]; exact he'⟩), rfl, q ys _ g2 g3 (I1.hok.fresh (Nat.le_refl _))⟩
  have lt : b < h'.objs.size := Heap.lt_size e
  exact (PyProof.Rows.sortedHeap_old (Nat.ne_of_lt lt) (by rw [size_push']; exact Nat.lt_succ_of_lt lt)).trans (Heap.get?_push_of_some _ e)
theorem cr_sortedU {X : Cx} : CallR X (.builtin "sorted") (rSortedU X.K) := by
  intro pins s σ H vs us Q I r h
  obtain ⟨a, xs, rfl, hs, h64, q⟩ := h
  obtain ⟨its, rv, ⟨o, g, hc, n, hd⟩, _⟩ := I.tuple hs
  rw [Vals.ref1 r]
  have len := rv.length
  rw [List.length_map] at len
  refine Calls.call_function_entry PyProof.Rows.kind_sorted PyProof.Rows.plain_sorted PyProof.Rows.entry_sorted (PyProof.Rows.args_sorted1 _) ?_
  unfold Builtin.«sorted»
  refine wpAny_bind (m := checkCount "sorted" 1 1 _) (wpAny_pure ?_)
  refine wpAny_bind (wpAny_collect_seq (A := X.A.in1) a (.inr rfl) g hc hd (fun h' k => ?_) (by rw [List.size_toArray, ← len, sizeLine_eq]; omega))
  exact sort_rest (I.kept (t' := s.toks) k) (by simpa using rv.strs) h64 q
end Fk

/-! sorted, sets' sizes, written dicts, class methods, draws. -/
namespace Vi
open PySem PySem.Spec PyProof.Rows L2 Fk
/-! ### sorted texts -/
def zsOf : List T → Option (List (List Nat))
  | [] => some []
  | .str z :: ts => (zsOf ts).map (z :: ·)
  | _ => none
def leZ (a b : List Nat) : Bool := !Spec.ltCps b a
def insZ (a : List Nat) : List (List Nat) → List (List Nat)
  | [] => [a]
  | b :: bs => if leZ a b = true then a :: b :: bs else b :: insZ a bs
def sortZ : List (List Nat) → List (List Nat)
  | [] => []
  | a :: as => insZ a (sortZ as)
theorem leZ_iff {a b : List Nat} : leZ a b = true ↔ a ≤ b := by
  unfold leZ
  rw [PyProof.Rows.ltCps_eq, Bool.not_eq_true', decide_eq_false_iff_not]
  exact List.not_lt
theorem insZ_perm (a : List Nat) : ∀ bs, (insZ a bs).Perm (a :: bs)
  | [] => .refl _
  | b :: bs => by
    unfold insZ
    split
    · exact .refl _
    · exact (List.Perm.cons b (insZ_perm a bs)).trans (List.Perm.swap a b bs)
theorem sortZ_perm : ∀ as, (sortZ as).Perm as
  | [] => .refl _
  | a :: as => (insZ_perm a _).trans (List.Perm.cons a (sortZ_perm as))
theorem insZ_pw {a : List Nat} : ∀ {bs : List (List Nat)}, bs.Pairwise (· ≤ ·) → (insZ a bs).Pairwise (· ≤ ·)
  | [], _ => List.pairwise_singleton _ _
  | b :: bs, h => by
    obtain ⟨h1, h2⟩ := List.pairwise_cons.mp h
    unfold insZ
    split
    · rename_i c
      have c := leZ_iff.mp c
      exact List.pairwise_cons.mpr ⟨fun x hx => (List.mem_cons.mp hx).elim (fun e => e ▸ c) fun m => List.le_trans c (h1 x m), h⟩
    · rename_i c
      have c : b ≤ a := (List.le_total a b).resolve_left fun z => c (leZ_iff.mpr z)
      exact List.pairwise_cons.mpr ⟨fun x hx => (List.mem_cons.mp ((insZ_perm a bs).mem_iff.mp hx)).elim (fun e => e ▸ c) (h1 x), insZ_pw h2⟩
theorem sortZ_pw : ∀ as, (sortZ as).Pairwise (· ≤ ·)
  | [] => .nil
  | a :: as => insZ_pw (sortZ_pw as)
theorem rising_pw : ∀ {ys : List (List Nat)} {x : List Nat}, risingS (zs x) (ys.map zs) = true → (x :: ys).Pairwise (· ≤ ·)
  | [], x, _ => List.pairwise_singleton _ _
  | y :: ys, x, h => by
    obtain ⟨h1, h2⟩ := Bool.and_eq_true_iff.mp (show (leZ x y && risingS (zs y) (ys.map zs)) = true from h)
    have ih := rising_pw h2
    have h1 := leZ_iff.mp h1
    exact List.pairwise_cons.mpr ⟨fun z hz => (List.mem_cons.mp hz).elim (fun e => e ▸ h1) fun m => List.le_trans h1 ((List.pairwise_cons.mp ih).1 z m), ih⟩
theorem sort_uniq {ks : List (List Nat)} {ys : List Str} (p : ys.Perm (ks.map zs)) (s : sortedS ys = true) : ys = (sortZ ks).map zs := by
  have hy : ∃ us : List (List Nat), ys = us.map zs := ⟨ys.map fun y => y.cps.toList, by rw [List.map_map]; exact (List.map_id ys).symm.trans (List.map_congr_left fun y _ => (zs_list y).symm)⟩
  obtain ⟨us, rfl⟩ := hy
  have pu : us.Perm ks := by
    have := p.map fun y => y.cps.toList
    rw [List.map_map, List.map_map] at this
    have e : ∀ l : List (List Nat), l.map ((fun y : Str => y.cps.toList) ∘ zs) = l := fun l => (List.map_congr_left fun a _ => by simp [zs]).trans (List.map_id l)
    rwa [e, e] at this
  have pw : us.Pairwise (· ≤ ·) := by
    cases us with
    | nil => exact .nil
    | cons x us => exact rising_pw s
  rw [List.Perm.eq_of_pairwise (fun a b _ _ h1 h2 => List.le_antisymm h1 h2) pw (sortZ_pw ks) (pu.trans (sortZ_perm ks).symm)]
def sortedT : List T → Option T
  | [.lst ts] => (zsOf ts).bind fun ks => if ks.length < 64 then some (.lst ((sortZ ks).map .str)) else none
  | [.tup ts] => (zsOf ts).bind fun ks => if ks.length < 64 then some (.lst ((sortZ ks).map .str)) else none
  | [.kt ts] => (zsOf ts).bind fun ks => if ks.length < 64 then some (.lst ((sortZ ks).map .str)) else none
  | _ => none
section
variable {C : VC} {E : XK} {R : Res} {H H' : Hp} {t : T} {v x y : V} {ts us : List T} {vs : List V} {dl : V → Hp → Prop} {L : (Hp → Prop) → Prop} {te ta tb : TE} {tA : TA} {m a b : M T} {ms : M (List T)}
theorem zsOf_reps : ∀ {ts : List T} {vs : List V} {ks : List (List Nat)}, zsOf ts = some ks → Rps C dl L vs ts → vs = (ks.map zs).map V.str
  | [], _, _, e, r => by cases e; cases r; rfl
  | .str z :: ts, _, _, e, r => by
    obtain ⟨k, e2, rfl⟩ := Option.map_eq_some_iff.mp (show (zsOf ts).map (z :: ·) = some _ from e)
    cases r with
    | cons r1 r2 => cases r1; rw [zsOf_reps e2 r2]; rfl
abbrev rSortAny (K : PySem.W.Frag) : List V → Hp → VK → Prop := fun xs H Q => rSortedS K xs H Q ∨ rSortedU K xs H Q
theorem call_sortAny {X : Cx} : CallR X (.builtin "sorted") (rSortAny X.K) := CallR.or cr_sortedS cr_sortedU
theorem rc_sort : RC C (rSortAny C.K) sortedT := fun R xs ts t H j rx e Q k => by
  have fin : ∀ (ks : List (List Nat)) (ys : List Str) (p : Addr), ys.Perm (ks.map zs) → sortedS ys = true → H p = none → t = .lst ((sortZ ks).map .str) → Q (.ref p) (upd H p (.lst (ys.map V.str))) := fun ks ys p h1 h2 h3 h4 => by
    have e := sort_uniq h1 h2
    subst e h4
    exact k _ _ (Gv.new j h3) (rep_lst upd_same (Fk.off j h3) (reps_strs _))
  match ts, e, rx with
  | [.lst us], e, rx =>
    obtain ⟨ks, ek, e2⟩ := Option.bind_eq_some_iff.mp (show (zsOf us).bind _ = some t from e)
    obtain ⟨v, rfl, r1⟩ := reps1 rx
    cases r1 with
    | @lst p xs _ hp hr =>
      by_cases l : ks.length < 64
      · rw [if_pos l] at e2
        exact .inl ⟨p, ks.map zs, rfl, by rw [← zsOf_reps ek hr]; exact .inl (.inl (hp H (Gr.refl j))), by rw [List.length_map]; exact l, fun ys q h1 h2 h3 => fin ks ys q h1 h2 h3 (Option.some.inj e2).symm⟩
      · rw [if_neg l] at e2; exact nomatch e2
  | [.tup us], e, rx =>
    obtain ⟨ks, ek, e2⟩ := Option.bind_eq_some_iff.mp (show (zsOf us).bind _ = some t from e)
    obtain ⟨v, rfl, r1⟩ := reps1 rx
    cases r1 with
    | @tup p xs _ hp hr =>
      by_cases l : ks.length < 64
      · rw [if_pos l] at e2
        exact .inr ⟨p, ks.map zs, rfl, by rw [← zsOf_reps ek hr]; exact .inl (.inl (hp H (Gr.refl j))), by rw [List.length_map]; exact l, fun ys q h1 h2 h3 => fin ks ys q h1 h2 h3 (Option.some.inj e2).symm⟩
      · rw [if_neg l] at e2; exact nomatch e2
  | [.kt us], e, rx =>
    obtain ⟨ks, ek, e2⟩ := Option.bind_eq_some_iff.mp (show (zsOf us).bind _ = some t from e)
    obtain ⟨v, rfl, r1⟩ := reps1 rx
    cases r1 with
    | @kt p xs _ hp hr =>
      by_cases l : ks.length < 64
      · rw [if_pos l] at e2
        exact .inr ⟨p, ks.map zs, rfl, by rw [← zsOf_reps ek hr]; exact hp H, by rw [List.length_map]; exact l, fun ys q h1 h2 h3 => fin ks ys q h1 h2 h3 (Option.some.inj e2).symm⟩
      · rw [if_neg l] at e2; exact nomatch e2

/-! ### set's size told against the length -/
def nodupZ : List (List Nat) → Bool
  | [] => true
  | a :: as => !(as.any fun b => decide (b = a)) && nodupZ as
theorem nodupZ_iff : ∀ {as : List (List Nat)}, nodupZ as = true ↔ as.Nodup
  | [] => ⟨fun _ => .nil, fun _ => rfl⟩
  | a :: as => by
    unfold nodupZ
    rw [Bool.and_eq_true, Bool.not_eq_true', List.nodup_cons, nodupZ_iff]
    refine and_congr ⟨fun h m => ?_, fun h => ?_⟩ Iff.rfl
    · have := List.any_eq_false.mp h a m; simp at this
    · exact List.any_eq_false.mpr fun x hx z => h (by rw [← of_decide_eq_true z]; exact hx)
def differT : T → Option T := fun t => match t with
  | .lst ts => (zsOf ts).bind fun ks => if ks.length ≤ 1000 then some (.bl (nodupZ ks)) else none
  | .tup ts => (zsOf ts).bind fun ks => if ks.length ≤ 1000 then some (.bl (nodupZ ks)) else none
  | .kt ts => (zsOf ts).bind fun ks => if ks.length ≤ 1000 then some (.bl (nodupZ ks)) else none
  | _ => none
/-- len(set(x)) == len(x), x a slot -/
theorem se_differ {P : Program} {w : World} (i : Nat) : SE C E (tOp (rEqAny C.K) (tCB (rLenK P w) (tCons (tCB (rSetS C.K P w) (tCons (tVar i) tNil)) tNil)) (tCB (rLenAny C.K) (tCons (tVar i) tNil))) (v1 differT (vVar i)) := fun R σ H ρ Φ Ψ hs hx hA => fun H1 g Q k => by
  obtain ⟨t, pt⟩ : ∃ t, ρ[i]? = some (some t) ∧ ∃ u, differT t = some u ∧ Φ u := by
    have hA : (((vVar i) ρ).bind fun t => opt (differT t)).All Φ Ψ := hA
    unfold vVar at hA
    split at hA
    · rename_i t e
      obtain ⟨u, e2, p⟩ := all_opt.mp hA
      exact ⟨t, e, u, e2, p⟩
    · exact hA.elim
  obtain ⟨ev, u, eu, pu⟩ := pt
  obtain ⟨v, hv, rv⟩ := hs.2 i t ev
  have rv1 : Rep C R t v H1 := rv.gr g
  have key : ∀ (p : Addr) (xs : List V) (us : List T) (ks : List (List Nat)), v = .ref p → (∀ H', Gr R H1 H' → SqL C.K H' p xs ∨ SqT C.K H' p xs) → Reps C R us xs H1 → zsOf us = some ks → ks.length ≤ 1000 → u = .bl (nodupZ ks) →
      tOp (rEqAny C.K) (tCB (rLenK P w) (tCons (tCB (rSetS C.K P w) (tCons (tVar i) tNil)) tNil)) (tCB (rLenAny C.K) (tCons (tVar i) tNil)) σ H1 Q := fun p xs us ks ep hq hr ek hl eq => by
    subst ep
    have ex := zsOf_reps ek hr
    refine ⟨.ref p, hv, p, ks.map zs, rfl, by rw [← ex]; exact hq H1 (Gr.refl g.1), by rw [List.length_map]; exact hl, fun q c hn hc hi => ?_⟩
    have gn := Gv.new (o := SetZO P w q (ks.map zs) c) g.1 hn
    refine ⟨q, _, c, rfl, upd_same, .ref p, hv, .inl ⟨p, xs, rfl, hq _ gn.1, ?_⟩⟩
    have len : xs.length = ks.length := by rw [ex, List.length_map, List.length_map]
    have nd : (c = ks.length) ↔ ks.Nodup := by
      rw [List.length_map] at hi
      rw [hi]
      exact List.pairwise_map.trans ⟨fun h => h.imp fun z e => z (congrArg zs e), fun h => h.imp fun z e => z (zs_inj e)⟩
    refine ro_eq R (.int c) (.int xs.length) (.int c) (.int xs.length) u _ gn.1.1 (.int _) (.int _) ?_ Q fun v H2 g2 r2 => k v H2 (gn.trans g2) ⟨u, pu, r2⟩
    rw [eq, len]
    show some (T.bl _) = _
    refine congrArg (fun b => some (T.bl b)) ?_
    by_cases z : ks.Nodup
    · rw [nodupZ_iff.mpr z]; simp [nd.mpr z]
    · have : nodupZ ks = false := by cases q : nodupZ ks with | false => rfl | true => exact absurd (nodupZ_iff.mp q) z
      rw [this]
      have ne : ¬ c = ks.length := fun e => z (nd.mp e)
      simp
      omega
  cases t with
  | lst us =>
    obtain ⟨ks, ek, e2⟩ := Option.bind_eq_some_iff.mp (show (zsOf us).bind _ = some u from eu)
    cases rv1 with
    | @lst p xs _ hp hr =>
      by_cases l : ks.length ≤ 1000
      · rw [if_pos l] at e2
        exact key p xs us ks rfl (fun H' g' => .inl (.inl (.inl (hp H' g')))) hr ek l (Option.some.inj e2).symm
      · rw [if_neg l] at e2; exact nomatch e2
  | tup us =>
    obtain ⟨ks, ek, e2⟩ := Option.bind_eq_some_iff.mp (show (zsOf us).bind _ = some u from eu)
    cases rv1 with
    | @tup p xs _ hp hr =>
      by_cases l : ks.length ≤ 1000
      · rw [if_pos l] at e2
        exact key p xs us ks rfl (fun H' g' => .inr (.inl (.inl (hp H' g')))) hr ek l (Option.some.inj e2).symm
      · rw [if_neg l] at e2; exact nomatch e2
  | kt us =>
    obtain ⟨ks, ek, e2⟩ := Option.bind_eq_some_iff.mp (show (zsOf us).bind _ = some u from eu)
    cases rv1 with
    | @kt p xs _ hp hr =>
      by_cases l : ks.length ≤ 1000
      · rw [if_pos l] at e2
        exact key p xs us ks rfl (fun H' g' => .inr (hp H')) hr ek l (Option.some.inj e2).symm
      · rw [if_neg l] at e2; exact nomatch e2
  | _ => exact nomatch eu
/-! ### a written dict's get -/
def kgetT (tb : List (List Nat × Int)) : T → Option T
  | .str z => some (match tb.find? fun p => decide (p.1 = z) with | some p => .int p.2 | none => .non)
  | _ => none
theorem lookup_tb {z : List Nat} : ∀ {tb : List (List Nat × Int)}, ((tb.map fun p => (zs p.1, V.int p.2)).lookup (zs z)).getD .non = (match tb.find? fun p => decide (p.1 = z) with | some p => V.int p.2 | none => V.non)
  | [] => rfl
  | p :: tb => by
    rw [List.map_cons, List.lookup_cons, List.find?_cons]
    by_cases q : p.1 = z
    · rw [show (zs z == zs p.1) = true from beq_iff_eq.mpr (by rw [q]), decide_eq_true q]; rfl
    · rw [show (zs z == zs p.1) = false from beq_eq_false_iff_ne.mpr fun e => q (zs_inj e).symm, decide_eq_false q]
      exact lookup_tb
theorem se_kget {a0 : Addr} {kvs : List (Str × V)} {tb : List (List Nat × Int)} (ek : kvs = tb.map fun p => (zs p.1, V.int p.2)) (h : SE C E te m) : SE C E (tKGet a0 kvs (tC (.ref a0)) te) (v1 (kgetT tb) m) := fun R σ H ρ Φ Ψ hs hx hA => fun H1 g Q k =>
  ⟨rfl, h R σ H ρ _ Ψ hs hx (all_bind.mp hA) H1 g _ fun y H2 g2 ⟨t, pt, rt⟩ => by
    obtain ⟨u, eu, pu⟩ := all_opt.mp pt
    cases t with
    | str z =>
      cases rt
      refine ⟨zs z, rfl, k _ H2 g2 ⟨u, pu, ?_⟩⟩
      rw [ek, lookup_tb]
      cases eu
      split
      · exact .int _
      · exact .non
    | _ => exact nomatch eu⟩
/-! ### class methods; a class in a slot; draws -/
def vCMeth (c : Nat) (n : Nat) (mf : List T → Prog T) (ms : M (List T)) : M T := fun ρ => (ms ρ).bind fun us => if us.length + 1 = n then (mf (.cl c :: us)).hush else .fail
theorem se_cmeth {c n : Nat} {D : Addr} {mf : List T → Prog T} (eD : D = C.cl c) (hA : SA C E tA ms) : SE C E (ClX.tCMeth D (spM C n mf) E (tC (.ref D)) tA) (vCMeth c n mf ms) := fun R σ H ρ Φ Ψ hs hx hP => fun H1 g Q k =>
  ⟨rfl, hA R σ H ρ _ Ψ hs hx (all_bind.mp hP) H1 g _ fun xs H2 g2 ⟨us, ps, rs⟩ => by
    by_cases l : us.length + 1 = n
    · rw [if_pos l] at ps
      exact ⟨R, .cl c :: us, by rw [List.length_cons, Rps.len rs]; exact l, g2.1.1, .cons (by rw [eD]; exact .cl c) rs, all_imp (fun t ht v H' g4 r => k v H' (g2.trans g4) ⟨t, ht, r⟩) (fun _ _ _ h => h) (all_hush ps)⟩
    · rw [if_neg l] at ps; exact ps.elim⟩
def vDraw (ms : M (List T)) : M T := fun ρ => (ms ρ).bind fun us => match us with
  | [.dl, .int (.ofNat k)] => if 0 < k ∧ k ≤ 1000000 then .draw k fun i => .ret (.int i) else .fail
  | _ => .fail
theorem se_draw (hk : ∀ n : Nat, C.dok (.int n) 0 n) (hA : SA C E tA ms) : SE C E (tCall C.dsp [] E tA) (vDraw ms) := fun R σ H ρ Φ Ψ hs hx hP => fun H1 g Q k =>
  hA R σ H ρ _ Ψ hs hx (all_bind.mp hP) H1 g _ fun xs H2 g2 ⟨us, ps, rs⟩ => by
    match us, ps, rs with
    | [.dl, .int (.ofNat n)], ps, rs =>
      dsimp only at ps
      by_cases c : 0 < n ∧ n ≤ 1000000
      · rw [if_pos c] at ps
        obtain ⟨v, w, rfl, r1, r2⟩ := reps2 rs
        cases r2
        cases r1 with
        | dl h =>
          rw [List.append_nil]
          exact h H2 (Gr.refl g2.1.1) _ 0 n Q E (hk n) g2.1.1 c.1 c.2 fun i hi H' g' => by rw [Int.zero_add]; exact k _ H' (g2.trans g') ⟨_, ps.2.2 i hi, .int _⟩
      · rw [if_neg c] at ps; exact ps.elim
def vDrawR (lo : Int) (n : Nat) (ms : M (List T)) : M T := fun ρ => (ms ρ).bind fun us => match us with
  | [.dl, .int (.ofNat k)] => if k ≤ 20 then .draw n fun i => .ret (.int (lo + i)) else .fail
  | _ => .fail
/-- a def that tells one of lo, lo + 1, .., whatever its second argument -/
theorem se_drawR {lo : Int} {n : Nat} (hn : 0 < n ∧ n ≤ 1000000) (hk : ∀ k : Nat, k ≤ 20 → C.dok (.int k) lo n) (hA : SA C E tA ms) : SE C E (tCall C.dsp [] E tA) (vDrawR lo n ms) := fun R σ H ρ Φ Ψ hs hx hP => fun H1 g Q k =>
  hA R σ H ρ _ Ψ hs hx (all_bind.mp hP) H1 g _ fun xs H2 g2 ⟨us, ps, rs⟩ => by
    match us, ps, rs with
    | [.dl, .int (.ofNat m)], ps, rs =>
      dsimp only at ps
      by_cases c : m ≤ 20
      · rw [if_pos c] at ps
        obtain ⟨v, w, rfl, r1, r2⟩ := reps2 rs
        cases r2
        cases r1 with
        | dl h =>
          rw [List.append_nil]
          exact h H2 (Gr.refl g2.1.1) _ lo n Q E (hk m c) g2.1.1 hn.1 hn.2 fun i hi H' g' => k _ H' (g2.trans g') ⟨_, ps.2.2 i hi, .int _⟩
      · rw [if_neg c] at ps; exact ps.elim
end
end Vi

/-! A class held in a slot is called; a class method with a promise by its place. -/
namespace Fk
open PySem PySem.Spec PyProof.Rows L2
section
variable {X : Cx} {CX : CXT} {k j i : Nat} {x y m : Str} {C : Addr} {sp : Sp} {E : XK} {p pos apos : Pos} {e o : Expr} {es : List Expr} {t : TA} {ta : TE}
def tMakeV (i : Nat) (C : Addr) (sp : Sp) (E : XK) (t : TA) : TE := fun σ H Q => σ[i]? = some (some (.ref C)) ∧ tMake C sp [] E t σ H Q
theorem pe_mkv (c : MakX X.prog X.w X.K X.mg X.base CX k y C sp) (hr : Room j X.A) (hk : k + 1 ≤ j) (hx : Passes CX X E) (hN : X.N[i]? = some x) (hv : Vis X.env.scope x) (ha : PA X (e :: es) t)
    (hdb : (x == ("__debug__" : Str)) = false := by decide) (hcd : (x == ("__classdict__" : Str)) = false := by decide)
    (he : starEach (e :: es) X.env = (false, eval e X.env) :: starEach es X.env := by rfl) (hpl : (backTo pos (starEach es X.env)).any (·.1) = false := by rfl) : PE X (.Call (.Name x p) (e :: es) [] pos) (tMakeV i C sp E t) := by
  obtain ⟨f, fd, ps, F, g, M, b⟩ := c
  refine ⟨fun pins s σ H Q I ⟨at_, h⟩ => ?_⟩
  refine wpAny_Call_Name_kw (thn ((pe_var (pos := p) hN hv hdb hcd).run pins s σ H (fun v G => v = .ref C ∧ G = H) I ⟨.ref C, at_, rfl, rfl⟩) fun u s1 ⟨v, G, I1, rv, ev, eG⟩ => ?_)
  subst ev eG
  cases rv
  exact PySem.W.callWith_K (h₀ := X.base) I.ok.mod.kin M.kp (thn (ha.run pos pins s1 σ G _ I1 h) fun us s2 ⟨vs, H2, I2, rs, q⟩ => ⟨I2.kIn, run_make M F (hr.mono hk) b .nil hx I2 rs q⟩) he hpl
end
end Fk

/-! Calls of class methods, of a class in a slot, of methods that several classes have. -/
namespace Vi
open PySem PySem.Spec PyProof.Rows L2 Fk
section
variable {C : VC} {E : XK} {R : Res} {te ta tb : TE} {tA : TA} {m a b : M T} {ms : M (List T)}
theorem se_cmethS {c n : Nat} {D : Addr} {E' : L2.St → XK} {mf : List T → Prog T} (eD : D = C.cl c) (hA : SA C E tA ms) : SE C E (tCMethS D (spM C n mf) E' (tC (.ref D)) tA) (vCMeth c n mf ms) := fun R σ H ρ Φ Ψ hs hx hP => fun H1 g Q k =>
  ⟨rfl, hA R σ H ρ _ Ψ hs hx (all_bind.mp hP) H1 g _ fun xs H2 g2 ⟨us, ps, rs⟩ => by
    by_cases l : us.length + 1 = n
    · rw [if_pos l] at ps
      exact ⟨R, .cl c :: us, by rw [List.length_cons, Rps.len rs]; exact l, g2.1.1, .cons (by rw [eD]; exact .cl c) rs, all_imp (fun t ht v H' g4 r => k v H' (g2.trans g4) ⟨t, ht, r⟩) (fun _ _ _ h => h) (all_hush ps)⟩
    · rw [if_neg l] at ps; exact ps.elim⟩
def vMakeV (i c n : Nat) (mi : Nat → List (List Nat) → List T → List T → Prog (List (List Nat) × List T)) (ms : M (List T)) : M T := fun ρ => match ρ[i]? with
  | some (some (.cl c')) => if c' = c then vMake c n mi ms ρ else .fail
  | _ => .fail
theorem se_mkv (i : Nat) {c n : Nat} {D : Addr} {cs : List Nat} {E' : XK} {mi : Nat → List (List Nat) → List T → List T → Prog (List (List Nat) × List T)} (eD : D = C.cl c) (hc : c ∈ cs) (h : SA C E tA ms) : SE C E (tMakeV i D (spI C n cs mi) E' tA) (vMakeV i c n mi ms) := fun R σ H ρ Φ Ψ hs hx hA => fun H1 g Q k => by
  unfold vMakeV at hA
  split at hA
  · rename_i c' e
    by_cases q : c' = c
    · rw [if_pos q] at hA
      subst q
      obtain ⟨v, hv, rv⟩ := hs.2 i _ e
      have rv : Rep C R (.cl c') v H := rv
      cases rv
      exact ⟨by rw [eD]; exact hv, se_make (n := n) eD hc h R σ H ρ Φ Ψ hs hx hA H1 g Q k⟩
    · rw [if_neg q] at hA; exact hA.elim
  · exact hA.elim
/-- o.name(..), o a slot that holds an instance of one of the classes cs -/
def vMethV (i : Nat) (cs : List Nat) (nm : List Nat) (n : Nat) (mf : List T → Prog T) (ms : M (List T)) : M T := fun ρ => match ρ[i]? with
  | some (some (.ins c _ _)) => if c ∈ cs then vMeth c nm n mf (vVar i) ms ρ else .fail
  | _ => .fail
theorem se_methV (i : Nat) {c n : Nat} {nm : List Nat} {nS : Str} {D : Addr} {E' : XK} {mf : List T → Prog T} (en : nS = zs nm) (eD : D = C.cl c) (hA : SA C E tA ms) : SE C E (tMeth D nS (spM C n mf) [] E' (tVar i) tA) (vMethV i [c] nm n mf ms) := fun R σ H ρ Φ Ψ hs hx hP => fun H1 g Q k => by
  unfold vMethV at hP
  split at hP
  · rename_i c' _ _ e
    by_cases q : c' ∈ [c]
    · rw [if_pos q] at hP
      have q := List.mem_singleton.mp q
      subst q
      exact se_meth (E := E) en eD (se_var i) hA R σ H ρ Φ Ψ hs hx hP H1 g Q k
    · rw [if_neg q] at hP; exact hP.elim
  · exact hP.elim
theorem se_methU {i c n : Nat} {cs : List Nat} {nm : List Nat} {mf : List T → Prog T} (h1 : SE C E ta (vMethV i [c] nm n mf ms)) (h2 : SE C E tb (vMethV i cs nm n mf ms)) : SE C E (fun σ H Q => ta σ H Q ∨ tb σ H Q) (vMethV i (c :: cs) nm n mf ms) := fun R σ H ρ Φ Ψ hs hx hP => fun H1 g Q k => by
  unfold vMethV at hP
  split at hP
  · rename_i c' x y e
    by_cases q : c' = c
    · rw [if_pos (by rw [q]; exact List.mem_cons_self)] at hP
      exact .inl (h1 R σ H ρ Φ Ψ hs hx (by unfold vMethV; rw [e]; dsimp only; rw [if_pos (by rw [q]; exact List.mem_singleton.mpr rfl)]; exact hP) H1 g Q k)
    · by_cases q2 : c' ∈ cs
      · rw [if_pos (List.mem_cons_of_mem _ q2)] at hP
        exact .inr (h2 R σ H ρ Φ Ψ hs hx (by unfold vMethV; rw [e]; dsimp only; rw [if_pos q2]; exact hP) H1 g Q k)
      · rw [if_neg fun z => (List.mem_cons.mp z).elim q q2] at hP; exact hP.elim
  · exact hP.elim
end
end Vi

/-! Taking out of an own list; bits. -/
namespace Vi
open PySem PySem.Spec PyProof.Rows L2 Fk
section
variable {C : VC} {E : XK} {R : Res} {sx : Option Addr} {H0 H : Hp} {ps : List Addr} {ρ : EnvS} {σ : L2.St} {te : TE} {m : M T}
/-- xs.append(ys.pop(k)), both own lists -/
def vAppendPop (i j : Nat) (m : M T) : MS := fun ρ => match ρ[i]?, ρ[j]? with
  | some (.own xs), some (.own ys) => if i = j then .fail else (m (ρ.map seeA)).bind fun t => match t with
    | .int (.ofNat k) => match ys[k]? with
      | some y => if xs.length < 1000000 ∧ k < 1000000 then .ret (.nx ((ρ.set j (.own (ys.eraseIdx k))).set i (.own (xs ++ [y])))) else .fail
      | none => .fail
    | _ => .fail
  | _, _ => .fail
theorem Rps.eraseIdx {dl : V → Hp → Prop} {L : (Hp → Prop) → Prop} : ∀ {vs : List V} {ts : List T} (k : Nat), Rps C dl L vs ts → Rps C dl L (vs.eraseIdx k) (ts.eraseIdx k)
  | [], ts, _, h => by cases h; exact .nil
  | v :: vs, ts, 0, h => by cases h with | cons h1 h2 => exact h2
  | v :: vs, ts, k + 1, h => by cases h with | cons h1 h2 => exact .cons h1 (Rps.eraseIdx k h2)
theorem ss_appendPop (i j : Nat) (h : SE C E te m) : SS C E (tDrop (tBM C.K "list" rAppend (tVar i) (tCons (tBM C.K "list" rPopAt (tVar j) (tCons te tNil)) tNil))) (vAppendPop i j m) := fun R sx H0 ps ρ σ H Φ Ψ D hs x hA e => by
  unfold vAppendPop at hA
  split at hA
  · rename_i xs ys qi qj
    by_cases ij : i = j
    · rw [if_pos ij] at hA; exact hA.elim
    · rw [if_neg ij] at hA
      obtain ⟨p, hv, hm, vs0, hp0, _⟩ := own_at hs qi rfl
      obtain ⟨p', hv', hm', vs0', hp0', _⟩ := own_at hs qj rfl
      refine ⟨.ref p, hv, .inl ⟨rfl, _, .inl (.inl hp0)⟩, .ref p', hv', .inl ⟨rfl, _, .inl (.inl hp0')⟩, ?_⟩
      refine h.runA hs x (all_bind.mp hA) fun v H2 t g h2 pt rt => ?_
      split at pt
      · rename_i k
        split at pt
        · rename_i y ey
          by_cases l : xs.length < 1000000 ∧ k < 1000000
          · rw [if_pos l] at pt
            cases rt
            obtain ⟨q, hq, hmq, ws, hqs, rs⟩ := own_at h2 qj rfl
            have eq : q = p' := by rw [hv'] at hq; cases hq; rfl
            subst eq
            obtain ⟨z, hz, rz⟩ := Rps.get rs ey
            have kl : k < ws.length := (List.getElem?_eq_some_iff.mp hz).1
            refine ⟨q, ws, (k : Int), k, z, rfl, rfl, hqs, by omega, by omega, ?_, hz, ?_⟩
            · have n0 : ¬ ((k : Int) < 0) := by omega
              show (if (decide (0 ≤ (if (k : Int) < 0 then (k : Int) + ws.length else (k : Int))) && decide ((if (k : Int) < 0 then (k : Int) + ws.length else (k : Int)) < ws.length)) = true then some (if (k : Int) < 0 then (k : Int) + ws.length else (k : Int)).toNat else none) = some k
              rw [if_neg n0, if_pos (by rw [Bool.and_eq_true]; exact ⟨decide_eq_true (by omega), decide_eq_true (by omega)⟩)]
              rfl
            · have gu := gr_upd (o := .lst (ws.eraseIdx k)) h2.ow hmq h2.j
              obtain ⟨h3, x3⟩ := h2.updOwn qj rfl hv' hmq (s' := .own (ys.eraseIdx k)) rfl ⟨hmq, ws.eraseIdx k, upd_same, Rps.eraseIdx k (rs.gr gu)⟩ (fun _ z => nomatch z)
              have qi3 : (ρ.set j (.own (ys.eraseIdx k)))[i]? = some (.own xs) := by rw [List.getElem?_set_ne fun z => ij z.symm]; exact qi
              obtain ⟨p2, hv2, hm2, vs, hp, rx⟩ := own_at h3 qi3 rfl
              have ep : p2 = p := by rw [hv] at hv2; cases hv2; rfl
              subst ep
              refine ⟨p2, vs, z, rfl, rfl, hp, small_line (by rw [rx.len]; exact l.1), ?_⟩
              have rz : Rep C (wth R ps) y z H2 := rz
              have rz3 := rz.gr gu
              have gu2 := gr_upd (o := .lst (vs ++ [z])) h3.ow hm2 h3.j
              obtain ⟨h4, x4⟩ := h3.updOwn qi3 rfl hv hm2 (s' := .own (xs ++ [y])) rfl ⟨hm2, vs ++ [z], upd_same, Rps.app (rx.gr gu2) (.cons (rz3.gr gu2) .nil)⟩ (fun _ z => nomatch z)
              exact e.nx _ pt ps σ _ h4 (((Ext.gv hs.ow g).trans h2.j x3).trans h3.j x4)
          · rw [if_neg l] at pt; exact pt.elim
        · exact pt.elim
      · exact pt.elim
  · exact hA.elim
/-! ### bits -/
def andB (i j : Int) : Int := Builtin.bitAnd i j
def cP (i j : Int) : Bool := decide (0 ≤ j) && (decide (j ≤ 1000000) && decide (i.natAbs < 2 ^ 64))
def andT := iiT (fun _ _ => true) fun i j => .int (Builtin.bitAnd i j)
def orBT := iiT (fun _ _ => true) fun i j => .int (Builtin.bitOr i j)
def powT := iiT cP fun i j => .int (i ^ j.toNat)
def shlT := iiT cP fun i j => .int (i * 2 ^ j.toNat)
def shrT := iiT (fun _ j => decide (0 ≤ j)) fun i j => .int (i / 2 ^ j.toNat)
theorem cP_ok {i j : Int} (h : cP i j = true) : CPow i j := by
  obtain ⟨a, b⟩ := Bool.and_eq_true_iff.mp h
  obtain ⟨b, c⟩ := Bool.and_eq_true_iff.mp b
  exact ⟨of_decide_eq_true a, of_decide_eq_true b, of_decide_eq_true c⟩
theorem ro_and : RO C (rI0 fun i j => .int (Builtin.bitAnd i j)) andT := ro_i0 fun _ _ _ _ => .int _
theorem ro_orB : RO C (rI0 fun i j => .int (Builtin.bitOr i j)) orBT := ro_i0 fun _ _ _ _ => .int _
theorem ro_pow : RO C (rI CPow fun i j => .int (i ^ j.toNat)) powT := ro_ii (fun i j h => cP_ok h) fun _ _ _ _ => .int _
theorem ro_shl : RO C (rI CPow fun i j => .int (i * 2 ^ j.toNat)) shlT := ro_ii (fun i j h => cP_ok h) fun _ _ _ _ => .int _
theorem ro_shr : RO C (rI (fun _ j => 0 ≤ j) fun i j => .int (i / 2 ^ j.toNat)) shrT := ro_ii (fun i j h => of_decide_eq_true h) fun _ _ _ _ => .int _
end
end Vi

/-! Several targets at once, new lists among the values. -/
namespace Vi
open PySem PySem.Spec PyProof.Rows L2 Fk
def setL : L2.St → List Nat → List V → L2.St
  | σ, j :: js, v :: vs => setL (σ.set j (some v)) js vs
  | σ, _, _ => σ
/-- values told one behind the other, each to its slot; ks: slots that were told already -/
def SP (C : VC) (E : XK) (ks js : List Nat) (tA : TA) (mp : EnvS → Prog EnvS) : Prop := ∀ (R : Res) (sx : Option Addr) (H0 : Hp) (ps : List Addr) (ρ : EnvS) (σ σ0 : L2.St) (H : Hp) (Φ : EnvS → Prop) (Ψ : XP), StOk C R sx H0 ps ρ σ H → XOkF C E R sx Ψ H0 → (∀ i, i ∉ ks → σ0[i]? = σ[i]?) → σ0.length = σ.length → (mp ρ).All Φ Ψ →
  ∀ Q : List V → Hp → Prop, (∀ vs H' ps' ρ', Φ ρ' → StOk C R sx H0 ps' ρ' (setL σ js vs) H' → Ext R ps H ps' H' → vs.length = js.length → Q vs H') → tA σ0 H Q
def vpNil : EnvS → Prog EnvS := .ret
def vpSh (ks : List Nat) (i : Nat) (m : M T) (r : EnvS → Prog EnvS) : EnvS → Prog EnvS := fun ρ => (m (wipeE (ρ.map seeS) ks)).bind fun t => r (ρ.set i (.sh t))
def vpOwn (ks : List Nat) (i : Nat) (m : M T) (r : EnvS → Prog EnvS) : EnvS → Prog EnvS := fun ρ => (m (wipeE (ρ.map seeS) ks)).bind fun t => r (ρ.set i (ownOf t))
def vPs (mp : EnvS → Prog EnvS) : MS := fun ρ => (mp ρ).bind fun ρ' => .ret (.nx ρ')
section
variable {C : VC} {E : XK} {R : Res} {sx : Option Addr} {H0 H : Hp} {ps : List Addr} {ρ : EnvS} {σ σ0 : L2.St} {te : TE} {tr : TA} {m : M T} {mr : EnvS → Prog EnvS} {ks js : List Nat} {i : Nat}
theorem wipeE_get {ρ : Env} {j : Nat} {t : T} : ∀ {ks : List Nat}, (wipeE ρ ks)[j]? = some (some t) → j ∉ ks ∧ ρ[j]? = some (some t)
  | [], h => ⟨List.not_mem_nil, h⟩
  | k :: ks, h => by
    have h : ((wipeE ρ ks).set k none)[j]? = some (some t) := h
    by_cases q : k = j
    · subst q
      by_cases l : k < (wipeE ρ ks).length
      · rw [List.getElem?_set_self l] at h; cases h
      · rw [List.getElem?_eq_none (by rw [List.length_set]; omega)] at h; cases h
    · rw [List.getElem?_set_ne q] at h
      obtain ⟨a, b⟩ := wipeE_get h
      exact ⟨fun z => (List.mem_cons.mp z).elim (fun e => q e.symm) a, b⟩
theorem masked (h : StOk C R sx H0 ps ρ σ H) (ag : ∀ i, i ∉ ks → σ0[i]? = σ[i]?) (l : σ0.length = σ.length) : SlE C (wth R ps) (wipeE (ρ.map seeS) ks) σ0 H := ⟨by rw [wipeE_len, List.length_map, h.len, l]; exact Nat.le_refl _, fun j t e => by
  obtain ⟨a, b⟩ := wipeE_get e
  obtain ⟨v, hv, r⟩ := h.shown.2 j t b
  exact ⟨v, (ag j a).trans hv, r⟩⟩
theorem agree (ag : ∀ i, i ∉ ks → σ0[i]? = σ[i]?) (v : V) : ∀ j, j ∉ i :: ks → σ0[j]? = (σ.set i (some v))[j]? := fun j hj => by
  rw [List.getElem?_set_ne fun z => hj (by rw [← z]; exact List.mem_cons_self)]
  exact ag j fun z => hj (List.mem_cons_of_mem _ z)
theorem sp_nil : SP C E ks [] tNil vpNil := fun R sx H0 ps ρ σ σ0 H Φ Ψ hs x ag l hA Q k => k [] H ps ρ hA hs Ext.refl rfl
theorem sp_sh (h : SE C E te m) (r : SP C E (i :: ks) js tr mr) : SP C E ks (i :: js) (tCons te tr) (vpSh ks i m mr) := fun R sx H0 ps ρ σ σ0 H Φ Ψ hs x ag l hA Q k =>
  h (wth R ps) σ0 H _ _ Ψ (masked hs ag l) (x.atS hs) (all_bind.mp hA) H (Gr.refl hs.j) _ fun v H2 g ⟨t, pt, rt⟩ =>
    r R sx H0 ps _ (σ.set i (some v)) σ0 H2 Φ Ψ ((hs.gv g).setSh rt) x (agree ag v) (by rw [List.length_set]; exact l) pt _ fun vs H' ps' ρ' p s e n => k (v :: vs) H' ps' ρ' p s ((Ext.gv hs.ow g).trans (hs.gv g).j e) (by rw [List.length_cons, List.length_cons, n])
theorem sp_own (h : SF C E te m) (r : SP C E (i :: ks) js tr mr) : SP C E ks (i :: js) (tCons te tr) (vpOwn ks i m mr) := fun R sx H0 ps ρ σ σ0 H Φ Ψ hs x ag l hA Q k =>
  h (wth R ps) σ0 H _ _ Ψ (masked hs ag l) (x.atS hs) (all_bind.mp hA) H (Gr.refl hs.j) _ fun p H2 t o hn g hp hf pt => by
    obtain ⟨h3, x3⟩ := hs.setOwn (i := i) hn g hp hf
    exact r R sx H0 _ _ (σ.set i (some (.ref p))) σ0 H2 Φ Ψ h3 x (agree ag _) (by rw [List.length_set]; exact l) pt _ fun vs H' ps' ρ' p' s e n => k (.ref p :: vs) H' ps' ρ' p' s (x3.trans h3.j e) (by rw [List.length_cons, List.length_cons, n])
theorem ss_parG {i j : Nat} {tA : TA} {mp : EnvS → Prog EnvS} (h : SP C E [] [i, j] tA mp) : SS C E (tPar i j tA) (vPs mp) := fun R sx H0 ps ρ σ H Φ Ψ D hs x hA e =>
  h R sx H0 ps ρ σ σ H _ Ψ hs x (fun _ _ => rfl) rfl (all_bind.mp hA) _ fun vs H' ps' ρ' p s ex n => by
    match vs, n, s with
    | [v, w], _, s => exact ⟨v, w, rfl, e.nx ρ' p ps' _ H' s ex⟩
def gsOf : List Nat → TGs
  | [] => gNil
  | j :: js => gCons (gName j) (gsOf js)
theorem gsOf_ok {Q : L2.St → Hp → Prop} {H : Hp} : ∀ {js : List Nat} {vs : List V} {σ : L2.St}, vs.length = js.length → Q (setL σ js vs) H → gsOf js vs σ H Q
  | [], [], σ, _, q => ⟨rfl, q⟩
  | j :: js, v :: vs, σ, n, q => ⟨v, vs, rfl, gsOf_ok (js := js) (Nat.succ.inj n) q⟩
  | [], _ :: _, _, n, _ => nomatch n
  | _ :: _, [], _, n, _ => nomatch n
theorem ss_asgG {n : Nat} {js : List Nat} {tA : TA} {mp : EnvS → Prog EnvS} (hn : n = js.length) (hz : js.length ≤ 1000) (h : SP C E [] js tA mp) : SS C E (tAsg (tTup tA) (gTup C.K n (gsOf js))) (vPs mp) := fun R sx H0 ps ρ σ H Φ Ψ D hs x hA e =>
  h R sx H0 ps ρ σ σ H _ Ψ hs x (fun _ _ => rfl) rfl (all_bind.mp hA) _ fun vs H' ps' ρ' p s ex l => by
    refine ⟨big (by omega), fun a ha => ⟨a, vs, rfl, .inl (.inl upd_same), l.trans hn.symm, gsOf_ok l ?_⟩⟩
    have g := Gv.new (o := .tup vs) s.j ha
    exact e.nx ρ' p ps' _ _ (s.gv g) (ex.trans s.j (Ext.gv s.ow g))
end
end Vi

/-! Calls by keywords alone: of classes, methods, class methods. -/
namespace Fk
open PySem PySem.Spec PyProof.Rows L2
/-- the keywords' values, in the order of the parameters -/
def pickL {α : Type} (d : α) (js : List Nat) (xs : List α) : List α := js.map fun j => xs.getD j d
def tPerm (js : List Nat) (n : Nat) (tk : TA) : TA := fun σ H Q => tk σ H fun zs H1 => zs.length = n ∧ Q (pickL .non js zs) H1
theorem vals_getD : ∀ {zs : List V} {ws : List Value}, Vals zs ws → ∀ j, RelV (zs.getD j .non) (ws.getD j .none)
  | _, _, .nil, j => by simp only [List.getD_nil]; exact rfl
  | _, _, .cons r rs, 0 => r
  | _, _, .cons r rs, j + 1 => by simpa using vals_getD rs j
theorem vals_pick {zs : List V} {ws : List Value} (r : Vals zs ws) : ∀ js : List Nat, Vals (pickL .non js zs) (pickL .none js ws)
  | [] => .nil
  | j :: js => .cons (vals_getD r j) (vals_pick r js)
def KbX (K : PySem.W.Frag) (fd : FuncData) (ps : List Str) (n : Nat) (ks : List Str) (js : List Nat) : Prop := KBn K fd ps n ks (fun us ws => us ++ pickL .none js ws) (fun vs zs => vs ++ pickL .non js zs)
theorem kbx_of {K : PySem.W.Frag} {x qual : Str} {st : Stmt} {f : Addr} {fd : FuncData} {ps ks : List Str} {n : Nat} {js : List Nat} (F : Fun K x qual st f fd)
    (h : ∀ (kV doc pm : Value) (an : Option Addr) (cdv ct : Value) (us ws : List Value), us.length = n → ws.length = ks.length → bindArgs (PySem.W.fnOf x qual (defArgs st) (defBody st) (defScope st) .none kV doc pm an cdv ct) ⟨us, ks.zip ws⟩ = pure (ps.zip (us ++ pickL .none js ws))) : KbX K fd ps n ks js := by
  obtain ⟨oc, od, kV, doc, pm, an, cdv, ct, osl, rfl, lk, hcd⟩ := F.ex
  exact ⟨fun s us ws X l1 l2 => .of_eq (h kV doc pm an cdv ct us ws l1 l2), fun r1 r2 => r1.append (vals_pick r2 js)⟩
section
variable {X : Cx} {CX : CXT} {k j : Nat} {C p g f : Addr} {mc : Value} {sp : Sp} {o : Expr} {x m : Str} {pos apos np : Pos} {ta : TE} {tk : TA} {fd : FuncData} {ps ks : List Str} {js : List Nat} {kws : List Keyword}
/-- o.m(k = v, ..) -/
theorem pe_methK {E : XK} {pl : Sem Bool} (he : PE X o ta) (c : Cls X.K C) (hm : Meth X.K C m f) (F : FnOk X.prog X.w X.K X.mg X.base CX k f fd ps sp) (hr : Room k X.A) (hb : KbX X.K fd ps 1 ks js) (hx : Passes CX X E) (hkw : PK X kws tk)
    (hall : (backToKw pos (keywordEach kws X.env)).all (·.1.isSome) = true := by rfl) (hks : (backToKw pos (keywordEach kws X.env)).filterMap (·.1) = ks := by rfl)
    (hpl : ((backTo pos (starEach [] X.env)).any (·.1) || (backToKw pos (keywordEach kws X.env)).any (·.1.isNone)) = false := by rfl)
    (ht : eval (.Call (.Attribute o m apos) [] kws pos) X.env = (do
      let u ← eval o X.env
      standAt apos.atName
      let (f', front) ← holding [u] (getMethod u m pl)
      callWith pos f' front (backTo pos (starEach [] X.env)) (backToKw pos (keywordEach kws X.env))) := by rfl) :
    PE X (.Call (.Attribute o m apos) [] kws pos) (tMeth C m sp [] E ta (tPerm js ks.length tk)) := by
  refine ⟨fun pins s σ H Q I q0 => ?_⟩
  refine PySem.W.methodCall_KW (pl := pl) (thn (he.run pins s σ H _ I q0) fun u s1 z => ?_) ht
  obtain ⟨x, H1, I1, rx, a, dx, fs, ex, ea, l, q⟩ := z
  subst ex
  obtain rfl : u = Value.ref a := rx
  refine getmeth_ok I1 ea c hm l ?_
  refine PySem.W.callWith_KW0 (first := [.ref a]) (h₀ := X.base) I1.ok.mod.kin hm.kp hall ?_ hpl
  refine thn (hkw.run pos pins s1 σ H1 _ I1 q) fun ws s2 z => ?_
  obtain ⟨zs, H2, I2, rz, l2, q2⟩ := z
  refine ⟨I2.kIn, ?_⟩
  rw [hks]
  rw [List.append_nil] at q2
  exact run_fnN (us := [.ref a]) (vs := [.ref a]) F hr hb hx I2 (.cons rfl .nil) rz rfl l2 q2
/-- C.m(k = v, ..), m a class method -/
theorem pe_cmethK {E : L2.St → XK} {pl : Sem Bool} (he : PE X o ta) (r : ClX.CRead X.K C mc) (c : ClX.CMet X.K C mc m p g) (F : FnOk X.prog X.w X.K X.mg X.base CX k g fd ps sp) (hr : Room k X.A) (hb : KbX X.K fd ps 1 ks js) (hx : ∀ σ, PassesAt CX X σ (E σ)) (hkw : PK X kws tk)
    (hall : (backToKw pos (keywordEach kws X.env)).all (·.1.isSome) = true := by rfl) (hks : (backToKw pos (keywordEach kws X.env)).filterMap (·.1) = ks := by rfl)
    (hpl : ((backTo pos (starEach [] X.env)).any (·.1) || (backToKw pos (keywordEach kws X.env)).any (·.1.isNone)) = false := by rfl)
    (ht : eval (.Call (.Attribute o m apos) [] kws pos) X.env = (do
      let u ← eval o X.env
      standAt apos.atName
      let (f', front) ← holding [u] (getMethod u m pl)
      callWith pos f' front (backTo pos (starEach [] X.env)) (backToKw pos (keywordEach kws X.env))) := by rfl) :
    PE X (.Call (.Attribute o m apos) [] kws pos) (tCMethS C sp E ta (tPerm js ks.length tk)) := by
  refine ⟨fun pins s σ H Q I q0 => ?_⟩
  refine PySem.W.methodCall_KW (pl := pl) (thn (he.run pins s σ H _ I q0) fun u s1 z => ?_) ht
  obtain ⟨x, H1, I1, rx, ex, q1⟩ := z
  subst ex
  cases rx
  refine ClX.getmethcm_ok I1 r c fun s2 I2 => ?_
  refine PySem.W.callWith_of (P := PySem.W.MethP X.K s1.heap.objs.size g (.ref C)) hpl (PySem.W.keeps_M c.fi) (PyProof.Rows.evalArgs_kw2_nil hall (thn (hkw.run pos _ s2 σ H1 _ I2 q1) fun ws s3 z => ?_))
  obtain ⟨zs, H2, I3, rz, l2, q2⟩ := z
  refine ⟨⟨ClX.pin_at I3, I3.kIn⟩, ?_⟩
  have I4 := ClX.unpin I3
  rw [hks]
  have b2 := hb.to s3 [Value.ref C] ws I4.kIn rfl (rz.length.symm.trans l2)
  refine wpAny_call (PySem.W.method_call (ClX.pin_at I3) (codeAny_mono (F.run X.A X.stack s3 H2 ⟨[Value.ref C], ks.zip ws⟩ _ (V.ref C :: pickL .non js zs) Q (E σ) hr I4.env0 b2 (.cons rfl (vals_pick rz js)) q2) fun y s4 hq => ?_))
  cases y with
  | error er => exact hx σ pins H2 s3 er s4 I4 hq
  | ok fl =>
    cases fl with
    | ret u => exact I4.after hq
    | next => exact False.elim hq
    | brk => exact False.elim hq
    | cont => exact False.elim hq
/-- the class x, made by keywords alone -/
def MakKX (P : Program) (w : World) (K : PySem.W.Frag) (mg : Str → Option Value) (base : Heap) (CX : CXT) (k : Nat) (x : Str) (C : Addr) (sp : Sp) (ks : List Str) (js : List Nat) : Prop :=
  ∃ (f : Addr) (fd : FuncData) (ps : List Str), FnOk P w K mg base CX k f fd ps sp ∧ mg x = some (.ref C) ∧ Mk K C f ∧ KbX K fd ps 1 ks js
theorem makK_of {P : Program} {w : World} {K : PySem.W.Frag} {mg : Str → Option Value} {base : Heap} {C : Addr} {mm qual : Str} {st : Stmt} (gx : mg x = some (.ref C)) (M : Mk K C f) (d : ∃ fd, Fun K mm qual st f fd) (ok : ∀ fd, Fun K mm qual st f fd → FnOk P w K mg base CX k f fd ps sp)
    (b : ∀ (kV doc pm : Value) (an : Option Addr) (cdv ct : Value) (us ws : List Value), us.length = 1 → ws.length = ks.length → bindArgs (PySem.W.fnOf mm qual (defArgs st) (defBody st) (defScope st) .none kV doc pm an cdv ct) ⟨us, ks.zip ws⟩ = pure (ps.zip (us ++ pickL .none js ws))) : MakKX P w K mg base CX k x C sp ks js := by
  obtain ⟨fd, F⟩ := d
  exact ⟨f, fd, ps, ok fd F, gx, M, kbx_of F b⟩
/-- a def that the module names x, whatever its own name -/
theorem cal_by {P : Program} {w : World} {K : PySem.W.Frag} {mg : Str → Option Value} {base : Heap} {y qual : Str} {st : Stmt} (d : mg x = some (.ref f) ∧ ∃ fd, Fun K y qual st f fd) (ok : ∀ fd, Fun K y qual st f fd → FnOk P w K mg base CX k f fd ps sp)
    (b : ∀ (kV doc pm : Value) (an : Option Addr) (cdv ct : Value) (us : List Value), us.length = ps.length → bindArgs (PySem.W.fnOf y qual (defArgs st) (defBody st) (defScope st) .none kV doc pm an cdv ct) ⟨us, []⟩ = pure (ps.zip us)) : CalX P w K mg base CX k x sp := by
  obtain ⟨gx, fd, F⟩ := d
  exact ⟨f, fd, ps, ok fd F, gx, F.kp, F.binds b⟩
theorem pe_mkcK {E : XK} (c : MakKX X.prog X.w X.K X.mg X.base CX k x C sp ks js) (hr : Room j X.A) (hk : k + 1 ≤ j) (hx : Passes CX X E) (hkw : PK X kws tk) (hg : Gl X x := by rfl)
    (hall : (backToKw pos (keywordEach kws X.env)).all (·.1.isSome) = true := by rfl) (hks : (backToKw pos (keywordEach kws X.env)).filterMap (·.1) = ks := by rfl) (hdb : (x == ("__debug__" : Str)) = false := by decide)
    (hpl : ((backTo pos (starEach [] X.env)).any (·.1) || (backToKw pos (keywordEach kws X.env)).any (·.1.isNone)) = false := by rfl) :
    PE X (.Call (.Name x np) [] kws pos) (tMake C sp [] E (tPerm js ks.length tk)) := by
  obtain ⟨f, fd, ps, F, gx, M, b⟩ := c
  refine ⟨fun pins s σ H Q I q0 => ?_⟩
  refine wpAny_Call_Name_kw (ld_glob I hg gx ?_ hdb)
  refine PySem.W.callWith_KW0 (h₀ := X.base) I.ok.mod.kin M.kp hall ?_ hpl
  refine thn (hkw.run pos pins s σ H _ I q0) fun ws s2 z => ?_
  obtain ⟨zs, H2, I2, rz, l2, q2⟩ := z
  refine ⟨I2.kIn, ?_⟩
  rw [hks]
  exact run_makeK (n := 0) (us := []) (vs := []) M F (hr.mono hk) b hx I2 .nil rz rfl l2 fun y dy h1 h2 h3 => by
    have q3 := q2 y dy h1 h2 h3
    rw [List.append_nil] at q3
    exact q3
end
end Fk

/-! sorted of a set of texts. -/
namespace Fk
open PySem PySem.Spec PyProof.Rows L2
def rSortedZ (P : Program) (w : World) : List V → Hp → VK → Prop := fun vs H Q => ∃ (a : Addr) (ks : List Str) (c : Nat), vs = [V.ref a] ∧ H a = some (SetZO P w a ks c) ∧ c < 64 ∧
  ∀ (ys : List Str) (p : Addr), ys.Nodup → (∀ x, x ∈ ys ↔ x ∈ ks) → sortedS ys = true → H p = none → Q (.ref p) (upd H p (.lst (ys.map V.str)))
theorem strs_all : ∀ (l : List Value), (∀ v ∈ l, ∃ x t, v = Value.str x t) → StrsAre l (l.map strOf)
  | [], _ => .nil
  | v :: l, h => by
    obtain ⟨x, t, rfl⟩ := h v List.mem_cons_self
    exact .cons x t (strs_all l fun u hu => h u (List.mem_cons_of_mem _ hu))
theorem cr_sortedZ {X : Cx} (hc : X.calm = true) : CallR X (.builtin "sorted") (rSortedZ X.prog X.w) := by
  intro pins s σ H vs us Q I r h
  obtain ⟨a, ks, c, rfl, ha, h64, q⟩ := h
  rw [Vals.ref1 r]
  obtain ⟨o, es, ep, t, go, xo, od, g, nd, m, b, f, n, ri, le⟩ := setZ_get I ha
  refine Calls.call_function_entry PyProof.Rows.kind_sorted PyProof.Rows.plain_sorted PyProof.Rows.entry_sorted (PyProof.Rows.args_sorted1 _) ?_
  unfold Builtin.«sorted»
  refine wpAny_bind (m := checkCount "sorted" 1 1 _) (wpAny_pure ?_)
  refine wpAny_bind (collect_set (A := X.A.in1) (I.ok.hd hc) ⟨o, go, xo.1, od⟩ f b ri le fun s1 out k1 hz g1 o1 pm => ?_)
  have J : Inv X pins σ H { s with heap := s1.heap, gens := s1.gens, drawn := s1.drawn, toks := s1.toks } := I.call (ch := []) (Un.kept k1) (I.hok.kept k1) (by rw [g1]; exact I.bare) (fun _ z => nomatch z)
  have e : s1 = { s with heap := s1.heap, gens := s1.gens, drawn := s1.drawn, toks := s1.toks } := by
    cases s1
    cases s
    cases o1
    rfl
  rw [← e] at J
  have pk : (out.map strOf).Perm (es.toList.map fun e => strOf e.2) := by
    have z := pm.map strOf
    rw [List.map_map] at z
    exact z
  refine sort_rest J (strs_all out fun v hv => ?_) (by rw [List.length_map, pm.length_eq, List.length_map, Array.length_toList, n]; exact h64) fun ys p p1 p2 p3 => q ys p ?_ (fun x => ?_) p2 p3
  · obtain ⟨e, he, z⟩ := List.mem_map.mp (pm.mem_iff.mp hv)
    obtain ⟨x, t, e1, _⟩ := g e he
    exact ⟨x, t, by rw [← z]; exact e1⟩
  · exact (p1.trans pk).nodup_iff.mpr nd
  · rw [(p1.trans pk).mem_iff, m x]
end Fk

/-! Calls by keywords; sorted of a set; slots that are read no more. -/
namespace Vi
open PySem PySem.Spec PyProof.Rows L2 Fk
def dedupZ : List (List Nat) → List (List Nat)
  | [] => []
  | a :: as => if as.any (fun b => decide (b = a)) = true then dedupZ as else a :: dedupZ as
theorem any_mem {a : List Nat} {as : List (List Nat)} : as.any (fun b => decide (b = a)) = true ↔ a ∈ as := by
  rw [List.any_eq_true]
  exact ⟨fun ⟨b, h, e⟩ => of_decide_eq_true e ▸ h, fun h => ⟨a, h, decide_eq_true rfl⟩⟩
theorem dedup_mem {x : List Nat} : ∀ {as : List (List Nat)}, x ∈ dedupZ as ↔ x ∈ as
  | [] => Iff.rfl
  | a :: as => by
    unfold dedupZ
    split
    · rename_i h
      rw [dedup_mem, List.mem_cons]
      exact ⟨.inr, fun z => z.elim (fun e => e ▸ any_mem.mp h) id⟩
    · rw [List.mem_cons, List.mem_cons, dedup_mem]
theorem dedup_nd : ∀ as : List (List Nat), (dedupZ as).Nodup
  | [] => .nil
  | a :: as => by
    unfold dedupZ
    split
    · exact dedup_nd as
    · rename_i h
      exact List.nodup_cons.mpr ⟨fun z => h (any_mem.mpr (dedup_mem.mp z)), dedup_nd as⟩
def sortSetOf (ts : List T) : Option T := (zsOf ts).bind fun ks => if ks.length ≤ 60 then some (.lst ((sortZ (dedupZ ks)).map .str)) else none
def sortSetT : T → Option T
  | .lst ts => sortSetOf ts
  | .tup ts => sortSetOf ts
  | .kt ts => sortSetOf ts
  | _ => none
def vPerm (js : List Nat) (n : Nat) (ms : M (List T)) : M (List T) := fun ρ => (ms ρ).bind fun ts => if ts.length = n then .ret (pickL .non js ts) else .fail
/-- slots that are read no more -/
def clearS : List Nat → EnvS → EnvS
  | [], ρ => ρ
  | j :: js, ρ => clearS js (match ρ[j]? with
    | some (.sh _) => ρ.set j .no
    | _ => ρ)
def vClear (js : List Nat) (m : MS) : MS := fun ρ => m (clearS js ρ)
section
variable {C : VC} {E : XK} {R : Res} {H H' : Hp} {t : T} {v x y : V} {ts us : List T} {vs : List V} {dl : V → Hp → Prop} {L : (Hp → Prop) → Prop} {te ta tb : TE} {tA tk : TA} {m a b : M T} {ms : M (List T)}
theorem se_sortSet {P : Program} {w : World} (h : SE C E te m) : SE C E (tCB (rSortedZ P w) (tCons (tCB (rSetS C.K P w) (tCons te tNil)) tNil)) (v1 sortSetT m) := fun R σ H ρ Φ Ψ hs hx hA => fun H1 g Q k =>
  h R σ H ρ _ Ψ hs hx (all_bind.mp hA) H1 g _ fun v H2 g2 ⟨t, pt, rt⟩ => by
    obtain ⟨u, eu, pu⟩ := all_opt.mp pt
    have key : ∀ (p : Addr) (xs : List V) (us : List T), v = .ref p → (SqL C.K H2 p xs ∨ SqT C.K H2 p xs) → Reps C R us xs H2 → sortSetOf us = some u → tCB (rSortedZ P w) (tCons (tCB (rSetS C.K P w) (fun _ H Q => Q [v] H)) tNil) σ H2 Q := fun p xs us ep hq hr eu => by
      subst ep
      obtain ⟨ks, ek, e2⟩ := Option.bind_eq_some_iff.mp eu
      by_cases l : ks.length ≤ 60
      · rw [if_pos l] at e2
        cases e2
        have ex := zsOf_reps ek hr
        refine ⟨p, ks.map zs, rfl, by rw [← ex]; exact hq, by rw [List.length_map]; omega, fun q c hn hc hi => ?_⟩
        have gn := Gv.new (o := SetZO P w q (ks.map zs) c) g2.1.1 hn
        refine ⟨q, _, c, rfl, upd_same, by rw [List.length_map] at hc; omega, fun ys r h1 h2 h3 h4 => ?_⟩
        have e : ys = (sortZ (dedupZ ks)).map zs := sort_uniq ((List.perm_ext_iff_of_nodup h1 ?_).mpr fun x => ?_) h3
        · rw [e]
          have gr := Gv.new (o := .lst (((sortZ (dedupZ ks)).map zs).map V.str)) gn.1.1 h4
          exact k _ _ (g2.trans (gn.trans gr)) ⟨_, pu, rep_lst upd_same (Fk.off gn.1.1 h4) (reps_strs _)⟩
        · exact List.pairwise_map.mpr ((dedup_nd ks).imp fun z e => z (zs_inj e))
        · rw [h2 x, List.mem_map, List.mem_map]
          exact ⟨fun ⟨a, h, e⟩ => ⟨a, dedup_mem.mpr h, e⟩, fun ⟨a, h, e⟩ => ⟨a, dedup_mem.mp h, e⟩⟩
      · rw [if_neg l] at e2; exact nomatch e2
    cases t with
    | lst us => cases rt with
      | lst h1 h2 => exact key _ _ us rfl (.inl (.inl (.inl (h1 H2 (Gr.refl g2.1.1))))) h2 eu
    | tup us => cases rt with
      | tup h1 h2 => exact key _ _ us rfl (.inr (.inl (.inl (h1 H2 (Gr.refl g2.1.1))))) h2 eu
    | kt us => cases rt with
      | kt h1 h2 => exact key _ _ us rfl (.inr (h1 H2)) h2 eu
    | _ => exact nomatch eu
theorem rps_getD : ∀ {ts : List T} {vs : List V}, Rps C dl L vs ts → ∀ j, Rp C dl L (vs.getD j .non) (ts.getD j .non)
  | [], _, h, j => by cases h; simp only [List.getD_nil]; exact .non
  | _ :: _, _, h, 0 => by cases h with | cons h1 h2 => exact h1
  | _ :: _, _, h, j + 1 => by cases h with | cons h1 h2 => simpa using rps_getD h2 j
theorem rps_pick {ts : List T} {vs : List V} (h : Rps C dl L vs ts) : ∀ js : List Nat, Rps C dl L (pickL .non js vs) (pickL .non js ts)
  | [] => .nil
  | j :: js => .cons (rps_getD h j) (rps_pick h js)
theorem sa_perm (js : List Nat) (n : Nat) (h : SA C E tk ms) : SA C E (tPerm js n tk) (vPerm js n ms) := fun R σ H ρ Φ Ψ hs hx hA => fun H1 g Q k =>
  h R σ H ρ _ Ψ hs hx (all_bind.mp hA) H1 g _ fun vs H2 g2 ⟨ts, pt, rt⟩ => by
    by_cases l : ts.length = n
    · rw [if_pos l] at pt
      exact ⟨rt.len.trans l, k _ H2 g2 ⟨_, pt, rps_pick rt js⟩⟩
    · rw [if_neg l] at pt; exact pt.elim
theorem StOk.no {sx : Option Addr} {H0 : Hp} {ps : List Addr} {ρ : EnvS} {σ : L2.St} {i : Nat} {t : T} (h : StOk C R sx H0 ps ρ σ H) (e : ρ[i]? = some (.sh t)) : StOk C R sx H0 ps (ρ.set i .no) σ H where
  ow := h.ow
  fr := h.fr
  gr := h.gr
  kp := h.kp
  j := h.j
  nt := h.nt
  len := by rw [List.length_set]; exact h.len
  sl := fun j s o e1 e2 => by
    by_cases q : i = j
    · subst q
      rw [List.getElem?_set_self (List.getElem?_eq_some_iff.mp e).1] at e1
      cases e1
      exact True.intro
    · rw [List.getElem?_set_ne q] at e1
      exact h.sl j s o e1 e2
  ds := fun j k s s' p e1 e2 o1 o2 e3 e4 => by
    by_cases q : i = j
    · subst q
      rw [List.getElem?_set_self (List.getElem?_eq_some_iff.mp e).1] at e1
      cases e1
      exact nomatch o1
    · by_cases q2 : i = k
      · subst q2
        rw [List.getElem?_set_self (List.getElem?_eq_some_iff.mp e).1] at e2
        cases e2
        exact nomatch o2
      · rw [List.getElem?_set_ne q] at e1
        rw [List.getElem?_set_ne q2] at e2
        exact h.ds j k s s' p e1 e2 o1 o2 e3 e4
theorem StOk.clear {sx : Option Addr} {H0 : Hp} {ps : List Addr} {σ : L2.St} : ∀ {js : List Nat} {ρ : EnvS}, StOk C R sx H0 ps ρ σ H → StOk C R sx H0 ps (clearS js ρ) σ H
  | [], ρ, h => h
  | j :: js, ρ, h => by
    unfold clearS
    split
    · rename_i t e
      exact StOk.clear (h.no e)
    · exact StOk.clear h
theorem ss_clear {u : TS} {mb : MS} (js : List Nat) (h : SS C E u mb) : SS C E u (vClear js mb) := fun R sx H0 ps ρ σ H Φ Ψ D hs x hA e => h R sx H0 ps _ σ H Φ Ψ D hs.clear x hA e
end
end Vi

/-! Reasoning about mirrors. -/
namespace Vi
open PySem
theorem bind_ret {α β : Type} (a : α) (f : α → Prog β) : (Prog.ret a).bind f = f a := rfl
theorem opt_some {α : Type} (a : α) : opt (some a) = Prog.ret a := rfl
theorem hush_ret {α : Type} (a : α) : (Prog.ret a).hush = Prog.ret a := rfl
theorem all_ret {α : Type} {Φ : α → Prop} {Ψ : XP} {a : α} : (Prog.ret a).All Φ Ψ ↔ Φ a := Iff.rfl
/-- no way out but the end -/
abbrev No : XP := fun _ _ _ => False
theorem all_hush2 {α : Type} {Φ : α → Prop} {Ψ : XP} : ∀ {p : Prog α}, p.All Φ No → p.hush.All Φ Ψ
  | .ret a, h => h
  | .fail, h => h
  | .exc .., h => h.elim
  | .draw n k, h => ⟨h.1, h.2.1, fun i hi => all_hush2 (h.2.2 i hi)⟩
theorem all_hush_no {α : Type} {Φ : α → Prop} : ∀ {p : Prog α}, p.hush.All Φ No ↔ p.All Φ No := ⟨fun h => all_hush h, all_hush2⟩
theorem all_draw {α : Type} {Φ : α → Prop} {Ψ : XP} {n : Nat} {k : Nat → Prog α} (h0 : 0 < n) (h1 : n ≤ 1000000) (h : ∀ i, i < n → (k i).All Φ Ψ) : (Prog.draw n k).All Φ Ψ := ⟨h0, h1, h⟩
/-- a while: I by a measure -/
theorem wh_all {c : M Bool} {b : MS} {Φ : Out → Prop} {Ψ : XP} {I : Nat → EnvS → Prop}
    (step : ∀ n ρ, I n ρ → (c (ρ.map seeA)).All (fun x => if x = true then ∃ k, n = k + 1 ∧ (b ρ).All (fun o => match o with | .nx ρ2 => I k ρ2 | .ct ρ2 => I k ρ2 | .bk ρ2 => Φ (.nx ρ2) | .rt t => Φ (.rt t)) Ψ else Φ (.nx ρ)) Ψ) :
    ∀ {m n : Nat} {ρ : EnvS}, I n ρ → n < m → (vWh c b m ρ).All Φ Ψ
  | 0, n, ρ, _, h => absurd h (Nat.not_lt_zero n)
  | m + 1, n, ρ, i, h => by
    unfold vWh
    refine all_bind.mpr (all_imp (fun x hx => ?_) (fun _ _ _ h => h) (step n ρ i))
    by_cases q : x = true
    · rw [if_pos q] at hx ⊢
      obtain ⟨k, rfl, hb⟩ := hx
      refine all_bind.mpr (all_imp (fun o ho => ?_) (fun _ _ _ h => h) hb)
      cases o with
      | nx ρ2 => exact wh_all step ho (by omega)
      | ct ρ2 => exact wh_all step ho (by omega)
      | bk ρ2 => exact ho
      | rt t => exact ho
    · rw [if_neg q] at hx ⊢; exact hx
/-- a for: I by what has been gone through -/
theorem loop_all {f : T → EnvS → Option EnvS} {b : MS} {Φ : Out → Prop} {Ψ : XP} {I : List T → EnvS → Prop} (step : ∀ t ts ρ, I (t :: ts) ρ → ∃ ρ1, f t ρ = some ρ1 ∧ (b ρ1).All (fun o => match o with | .nx ρ2 => I ts ρ2 | .ct ρ2 => I ts ρ2 | .bk ρ2 => Φ (.nx ρ2) | .rt t => Φ (.rt t)) Ψ) (fin : ∀ ρ, I [] ρ → Φ (.nx ρ)) :
    ∀ {ts : List T} {ρ : EnvS}, I ts ρ → (vLoop f b ts ρ).All Φ Ψ
  | [], ρ, i => fin ρ i
  | t :: ts, ρ, i => by
    obtain ⟨ρ1, e, h⟩ := step t ts ρ i
    unfold vLoop
    rw [e]
    refine all_bind.mpr (all_imp (fun o ho => ?_) (fun _ _ _ h => h) h)
    cases o with
    | nx ρ2 => exact loop_all step fin ho
    | ct ρ2 => exact loop_all step fin ho
    | bk ρ2 => exact ho
    | rt t => exact ho
inductive F2 {α β : Type} (Q : α → β → Prop) : List α → List β → Prop
  | nil : F2 Q [] []
  | cons {a : α} {b : β} {as : List α} {bs : List β} : Q a b → F2 Q as bs → F2 Q (a :: as) (b :: bs)
/-- a comprehension: each item by itself -/
theorem lcGo_all {f : T → Env → Option Env} {mb : M Bool} {m : M T} {ρ : Env} {Ψ : XP} {Q : T → T → Prop} : ∀ {ts : List T} {Φ : List T → Prop}, (∀ t, t ∈ ts → ∃ ρ1, f t ρ = some ρ1 ∧ (mb ρ1).All (fun b => b = true → (m ρ1).All (Q t) Ψ) Ψ) →
    (∀ us : List T, (∃ ss : List T, ss.Sublist ts ∧ F2 Q ss us) → Φ us) → (lcGo f mb m ρ ts).All Φ Ψ
  | [], Φ, _, k => k [] ⟨[], .slnil, .nil⟩
  | t :: ts, Φ, h, k => by
    obtain ⟨ρ1, e, h1⟩ := h t List.mem_cons_self
    unfold lcGo
    rw [e]
    refine all_bind.mpr (all_imp (fun b hb => ?_) (fun _ _ _ h => h) h1)
    cases b with
    | false => exact lcGo_all (fun t ht => h t (List.mem_cons_of_mem _ ht)) fun us ⟨ss, h1, h2⟩ => k us ⟨ss, .cons _ h1, h2⟩
    | true =>
      refine all_bind.mpr (all_imp (fun x hx => ?_) (fun _ _ _ h => h) (hb rfl))
      refine all_bind.mpr (lcGo_all (fun t ht => h t (List.mem_cons_of_mem _ ht)) fun us ⟨ss, h1, h2⟩ => k _ ⟨t :: ss, .cons₂ _ h1, .cons hx h2⟩)
/-- a comprehension without draws -/
theorem lcGo_eq {f : T → Env → Option Env} {mb : M Bool} {m : M T} {ρ : Env} {p : T → Bool} {g : T → T} : ∀ {ts : List T}, (∀ t, t ∈ ts → ∃ ρ1, f t ρ = some ρ1 ∧ mb ρ1 = .ret (p t) ∧ (p t = true → m ρ1 = .ret (g t))) → lcGo f mb m ρ ts = .ret ((ts.filter p).map g)
  | [], _ => rfl
  | t :: ts, h => by
    obtain ⟨ρ1, e, h1, h2⟩ := h t List.mem_cons_self
    have ih := lcGo_eq (g := g) (p := p) fun t ht => h t (List.mem_cons_of_mem _ ht)
    unfold lcGo
    rw [e]
    dsimp only
    rw [h1, bind_ret, List.filter_cons]
    by_cases q : p t = true
    · rw [if_pos q, if_pos q, h2 q, bind_ret, ih]; rfl
    · rw [if_neg q, if_neg q, ih]
/-! ### step by step: each form by itself, what comes behind it left alone -/
section
variable {Φ : T → Prop} {Φo : Out → Prop} {Φb : Bool → Prop} {Φs : List T → Prop} {Φe : EnvS → Prop} {Ψ : XP} {ρ : Env} {e : EnvS} {i n : Nat} {t : T} {m a b c : M T} {ms : M (List T)} {p q : M Bool} {s s' : MS} {f : T → Option T} {g : T → T → Option T} {fs : List T → Option T} {mf : List T → Prog T} {mp : EnvS → Prog EnvS} {ks : List Nat}
/-- what goes on behind a statement -/
def seqK (b : MS) : Out → Prog Out
  | .nx ρ' => b ρ'
  | o => .ret o
theorem hv_run (h : (s (List.map Slot.sh us ++ List.replicate (n - us.length) Slot.no)).All (fun o => (outT o).All Φ Ψ) Ψ) : (runF n s us).All Φ Ψ := all_bind.mpr h
theorem hv_seq (h : (s e).All (fun o => (seqK s' o).All Φo Ψ) Ψ) : (vSeq s s' e).All Φo Ψ := all_bind.mpr (all_imp (fun o ho => by cases o <;> exact ho) (fun _ _ _ h => h) h)
theorem hv_nx (h : (s e).All Φo Ψ) : (seqK s (.nx e)).All Φo Ψ := h
theorem hv_rt (h : Φo (.rt t)) : (seqK s (.rt t)).All Φo Ψ := h
theorem hv_out (h : Φ t) : (outT (.rt t)).All Φ Ψ := h
theorem hv_next (h : Φo (.nx e)) : (vNext e).All Φo Ψ := h
theorem hv_setS (h : (m (e.map seeS)).All (fun t => Φo (.nx (e.set i (.sh t)))) Ψ) : (vSetS i m e).All Φo Ψ := all_bind.mpr h
theorem hv_setOwn (h : (m (e.map seeS)).All (fun t => Φo (.nx (e.set i (ownOf t)))) Ψ) : (vSetOwn i m e).All Φo Ψ := all_bind.mpr h
theorem hv_setA (h : (m (e.map seeA)).All (fun t => plainT t = true ∧ Φo (.nx (e.set i (.sh t)))) Ψ) : (vSetA i m e).All Φo Ψ := all_bind.mpr (all_imp (fun t ⟨h1, h2⟩ => by rw [if_pos h1]; exact h2) (fun _ _ _ h => h) h)
theorem hv_ifS (h : (p (e.map seeA)).All (fun x => (x = true → (s e).All Φo Ψ) ∧ (x = false → (s' e).All Φo Ψ)) Ψ) : (vIfS p s s' e).All Φo Ψ := all_bind.mpr (all_imp (fun x ⟨h1, h2⟩ => by cases x <;> first | exact h1 rfl | exact h2 rfl) (fun _ _ _ h => h) h)
theorem hv_ret (h : (m (e.map seeA)).All (fun t => Φo (.rt t)) Ψ) : (vRet m e).All Φo Ψ := all_bind.mpr h
theorem hv_drop (h : (m (e.map seeA)).All (fun _ => Φo (.nx e)) Ψ) : (vDrop m e).All Φo Ψ := all_bind.mpr h
theorem hv_ps (h : (mp e).All (fun e' => Φo (.nx e')) Ψ) : (vPs mp e).All Φo Ψ := all_bind.mpr h
theorem hv_pnil (h : Φe e) : (vpNil e).All Φe Ψ := h
theorem hv_psh (h : (m (wipeE (e.map seeS) ks)).All (fun t => (mp (e.set i (.sh t))).All Φe Ψ) Ψ) : (vpSh ks i m mp e).All Φe Ψ := all_bind.mpr h
theorem hv_pown (h : (m (wipeE (e.map seeS) ks)).All (fun t => (mp (e.set i (ownOf t))).All Φe Ψ) Ψ) : (vpOwn ks i m mp e).All Φe Ψ := all_bind.mpr h
theorem hv_var (e : ρ[i]? = some (some t)) (h : Φ t) : (vVar i ρ).All Φ Ψ := by unfold vVar; rw [e]; exact h
theorem hv_varQ (h : ∃ t, ρ[i]? = some (some t) ∧ Φ t) : (vVar i ρ).All Φ Ψ := let ⟨t, e, h⟩ := h; hv_var e h
theorem hv_c (h : Φ t) : (vC t ρ).All Φ Ψ := h
theorem hv_v1 (h : (a ρ).All (fun x => (opt (f x)).All Φ Ψ) Ψ) : (v1 f a ρ).All Φ Ψ := all_bind.mpr h
theorem hv_v2 (h : (a ρ).All (fun x => (b ρ).All (fun y => (opt (g x y)).All Φ Ψ) Ψ) Ψ) : (v2 g a b ρ).All Φ Ψ := all_bind.mpr (all_imp (fun _ h => all_bind.mpr h) (fun _ _ _ h => h) h)
theorem hv_opt {α : Type} {o : Option α} {x : α} {Φ : α → Prop} (e : o = some x) (h : Φ x) : (opt o).All Φ Ψ := all_opt.mpr ⟨x, e, h⟩
theorem hv_T (h : (a ρ).All (fun x => ∃ k, x = .bl k ∧ Φb k) Ψ) : (vT a ρ).All Φb Ψ := all_bind.mpr (all_imp (fun x ⟨k, e, h⟩ => by subst e; exact h) (fun _ _ _ h => h) h)
theorem hv_cons (h : (a ρ).All (fun x => (ms ρ).All (fun xs => Φs (x :: xs)) Ψ) Ψ) : (vCons a ms ρ).All Φs Ψ := all_bind.mpr (all_imp (fun _ h => all_bind.mpr h) (fun _ _ _ h => h) h)
theorem hv_nil (h : Φs []) : (vNil ρ).All Φs Ψ := h
theorem hv_tup (h : (ms ρ).All (fun xs => xs.length ≤ 1000000 ∧ Φ (.tup xs)) Ψ) : (vTup ms ρ).All Φ Ψ := all_bind.mpr (all_imp (fun x ⟨h1, h2⟩ => by rw [if_pos h1]; exact h2) (fun _ _ _ h => h) h)
theorem hv_lst (h : (ms ρ).All (fun xs => xs.length ≤ 1000000 ∧ Φ (.lst xs)) Ψ) : (vLst ms ρ).All Φ Ψ := all_bind.mpr (all_imp (fun x ⟨h1, h2⟩ => by rw [if_pos h1]; exact h2) (fun _ _ _ h => h) h)
theorem hv_call (h : (ms ρ).All (fun xs => xs.length = n ∧ (mf xs).hush.All Φ Ψ) Ψ) : (vCall n mf ms ρ).All Φ Ψ := all_bind.mpr (all_imp (fun x ⟨h1, h2⟩ => by rw [if_pos h1]; exact h2) (fun _ _ _ h => h) h)
theorem hv_cb (h : (ms ρ).All (fun xs => (opt (fs xs)).All Φ Ψ) Ψ) : (vCB fs ms ρ).All Φ Ψ := all_bind.mpr h
theorem hv_draw (h : (ms ρ).All (fun xs => ∃ n : Nat, xs = [.dl, .int (n : Int)] ∧ 0 < n ∧ n ≤ 1000000 ∧ ∀ i : Nat, i < n → Φ (.int (i : Int))) Ψ) : (vDraw ms ρ).All Φ Ψ := all_bind.mpr (all_imp (fun xs ⟨n, e, h0, h1, h2⟩ => by subst e; show Prog.All (if 0 < n ∧ n ≤ 1000000 then _ else _) _ _; rw [if_pos ⟨h0, h1⟩]; exact ⟨h0, h1, h2⟩) (fun _ _ _ h => h) h)
theorem hv_and (h : (p ρ).All (fun x => (x = true → (q ρ).All Φb Ψ) ∧ (x = false → Φb false)) Ψ) : (vAndT p q ρ).All Φb Ψ := all_bind.mpr (all_imp (fun x ⟨h1, h2⟩ => by cases x <;> first | exact h1 rfl | exact h2 rfl) (fun _ _ _ h => h) h)
theorem hv_or (h : (p ρ).All (fun x => (x = true → Φb true) ∧ (x = false → (q ρ).All Φb Ψ)) Ψ) : (vOrT p q ρ).All Φb Ψ := all_bind.mpr (all_imp (fun x ⟨h1, h2⟩ => by cases x <;> first | exact h1 rfl | exact h2 rfl) (fun _ _ _ h => h) h)
theorem hv_not (h : (p ρ).All (fun x => Φb (!x)) Ψ) : (vNotT p ρ).All Φb Ψ := all_bind.mpr h
theorem hv_if (h : (p ρ).All (fun x => (x = true → (a ρ).All Φ Ψ) ∧ (x = false → (b ρ).All Φ Ψ)) Ψ) : (vIf p a b ρ).All Φ Ψ := all_bind.mpr (all_imp (fun x ⟨h1, h2⟩ => by cases x <;> first | exact h1 rfl | exact h2 rfl) (fun _ _ _ h => h) h)
theorem hv_sl {lo hi : M (Option Int)} (h : (a ρ).All (fun t => (lo ρ).All (fun l => (hi ρ).All (fun u => (opt (slT t l u)).All Φ Ψ) Ψ) Ψ) Ψ) : (vSl a lo hi ρ).All Φ Ψ := all_bind.mpr (all_imp (fun _ h => all_bind.mpr (all_imp (fun _ h => all_bind.mpr h) (fun _ _ _ h => h) h)) (fun _ _ _ h => h) h)
theorem hv_nopart {Φi : Option Int → Prop} (h : Φi none) : (vNoPart ρ).All Φi Ψ := h
theorem hv_part {Φi : Option Int → Prop} (h : (a ρ).All (fun t => ∃ i, t = .int i ∧ Φi (some i)) Ψ) : (vPart a ρ).All Φi Ψ := all_bind.mpr (all_imp (fun t ⟨i, e, h⟩ => by subst e; exact h) (fun _ _ _ h => h) h)
theorem isi_str_int {z : List Nat} : isiB [.str z, .ty "int"] = some (.bl false) := by
  show (L2.kitB "str" "int").map _ = _
  rw [show L2.kitB "str" "int" = some false from by decide +kernel]; rfl
theorem isi_int_int {i : Int} : isiB [.int i, .ty "int"] = some (.bl true) := by
  show (L2.kitB "int" "int").map _ = _
  rw [show L2.kitB "int" "int" = some true from by decide +kernel]; rfl
end
/-! ### data -/
def okT (t : T) : Prop := okD 59 t = true
theorem okDs_all : ∀ {n : Nat} {ts : List T}, okDs n ts = true ↔ ∀ t, t ∈ ts → okD n t = true
  | n, [] => ⟨fun _ t h => absurd h List.not_mem_nil, fun _ => by unfold okDs; rfl⟩
  | n, t :: ts => by
    unfold okDs
    rw [Bool.and_eq_true, okDs_all]
    exact ⟨fun h x hx => (List.mem_cons.mp hx).elim (fun e => e ▸ h.1) (h.2 x), fun h => ⟨h t List.mem_cons_self, fun x hx => h x (List.mem_cons_of_mem _ hx)⟩⟩
theorem ne_nil {ts : List T} (h : ∀ t, t ∈ ts → okT t) : neT (.lst ts) (.lst []) = some (.bl !ts.isEmpty) := by
  have e : okD 60 (.lst ts) = true := okDs_all.mpr h
  show orT (eqF true) (eqA true) _ _ = _
  unfold orT
  show (match (none : Option T) with | some t => some t | none => eqA true (.lst ts) (.lst [])) = _
  dsimp only
  unfold eqA
  rw [if_pos ⟨e, rfl⟩]
  cases ts <;> rfl
end Vi

namespace Vi
open PySem PySem.Spec PyProof.Rows L2 Fk
def topS (i : Nat) : Stmt := PySem.Challenge.pw_forkpolls_k11_arguments_by_names.main.body.getD i (.Pass ⟨0, 0, 0, 0⟩)
theorem rp_lit {C : VC} {dl : V → Hp → Prop} {L : (Hp → Prop) → Prop} {x : Str} {z : List Nat} (e : x = zs z) : Rp C dl L (.str x) (.str z) := e ▸ .str z
set_option autoImplicit false
theorem lt0 : ("a" : Str) = zs [97] := by decide +kernel
theorem lt1 : ("z" : Str) = zs [122] := by decide +kernel
theorem lt2 : (" " : Str) = zs [32] := by decide +kernel
theorem lt3 : ("late" : Str) = zs [108, 97, 116, 101] := by decide +kernel
theorem lt4 : ("words" : Str) = zs [119, 111, 114, 100, 115] := by decide +kernel
theorem lt5 : ("add" : Str) = zs [97, 100, 100] := by decide +kernel
theorem lt6 : ("same" : Str) = zs [115, 97, 109, 101] := by decide +kernel
theorem lt7 : ("then" : Str) = zs [116, 104, 101, 110] := by decide +kernel
theorem lt8 : ("any" : Str) = zs [97, 110, 121] := by decide +kernel
theorem lt9 : ("old" : Str) = zs [111, 108, 100] := by decide +kernel
theorem lt10 : ("kind" : Str) = zs [107, 105, 110, 100] := by decide +kernel
theorem lt11 : ("by" : Str) = zs [98, 121] := by decide +kernel
theorem lt12 : ("to" : Str) = zs [116, 111] := by decide +kernel
theorem lt13 : ("other" : Str) = zs [111, 116, 104, 101, 114] := by decide +kernel
theorem lt14 : ("one" : Str) = zs [111, 110, 101] := by decide +kernel
theorem lt15 : ("there" : Str) = zs [116, 104, 101, 114, 101] := by decide +kernel
theorem lt16 : ("here" : Str) = zs [104, 101, 114, 101] := by decide +kernel
theorem lt17 : ("join" : Str) = zs [106, 111, 105, 110] := by decide +kernel
theorem lt18 : ("more" : Str) = zs [109, 111, 114, 101] := by decide +kernel
theorem lt19 : ("right" : Str) = zs [114, 105, 103, 104, 116] := by decide +kernel
theorem lt20 : ("left" : Str) = zs [108, 101, 102, 116] := by decide +kernel
theorem lt21 : ("part" : Str) = zs [112, 97, 114, 116] := by decide +kernel
theorem lt22 : ("named" : Str) = zs [110, 97, 109, 101, 100] := by decide +kernel
theorem lt23 : ("marks" : Str) = zs [109, 97, 114, 107, 115] := by decide +kernel
theorem lt24 : ("counted" : Str) = zs [99, 111, 117, 110, 116, 101, 100] := by decide +kernel
theorem lt25 : ("keeps" : Str) = zs [107, 101, 101, 112, 115] := by decide +kernel
theorem lt26 : ("rows" : Str) = zs [114, 111, 119, 115] := by decide +kernel
theorem lt27 : ("blank" : Str) = zs [98, 108, 97, 110, 107] := by decide +kernel
theorem lt28 : ("worth" : Str) = zs [119, 111, 114, 116, 104] := by decide +kernel
theorem lt29 : ("steps" : Str) = zs [115, 116, 101, 112, 115] := by decide +kernel
theorem lt30 : ("joins" : Str) = zs [106, 111, 105, 110, 115] := by decide +kernel
theorem lt31 : ("parts" : Str) = zs [112, 97, 114, 116, 115] := by decide +kernel
theorem lt32 : ("\n" : Str) = zs [10] := by decide +kernel
theorem lt33 : ("late yes" : Str) = zs [108, 97, 116, 101, 32, 121, 101, 115] := by decide +kernel
theorem lt34 : ("in" : Str) = zs [105, 110] := by decide +kernel
theorem lt35 : ("no" : Str) = zs [110, 111] := by decide +kernel
theorem lt36 : ("cut" : Str) = zs [99, 117, 116] := by decide +kernel
theorem lt37 : ("step" : Str) = zs [115, 116, 101, 112] := by decide +kernel
theorem lt38 : ("joined" : Str) = zs [106, 111, 105, 110, 101, 100] := by decide +kernel
theorem lt39 : ("parted" : Str) = zs [112, 97, 114, 116, 101, 100] := by decide +kernel
theorem lt40 : ("without" : Str) = zs [119, 105, 116, 104, 111, 117, 116] := by decide +kernel
theorem lt41 : ("asking" : Str) = zs [97, 115, 107, 105, 110, 103] := by decide +kernel
theorem lt42 : ("-3" : Str) = zs [45, 51] := by decide +kernel
theorem lt43 : ("-2" : Str) = zs [45, 50] := by decide +kernel
theorem lt44 : ("-1" : Str) = zs [45, 49] := by decide +kernel
theorem lt45 : ("0" : Str) = zs [48] := by decide +kernel
theorem lt46 : ("1" : Str) = zs [49] := by decide +kernel
theorem lt47 : ("2" : Str) = zs [50] := by decide +kernel
theorem lt48 : ("3" : Str) = zs [51] := by decide +kernel
theorem lt49 : ("yes" : Str) = zs [121, 101, 115] := by decide +kernel
theorem lt50 : ("late no" : Str) = zs [108, 97, 116, 101, 32, 110, 111] := by decide +kernel
theorem lt51 : ("word" : Str) = zs [119, 111, 114, 100] := by decide +kernel
theorem lt52 : ("strike" : Str) = zs [115, 116, 114, 105, 107, 101] := by decide +kernel
theorem lt53 : ("back" : Str) = zs [98, 97, 99, 107] := by decide +kernel
abbrev s_law_number : Stmt := (topS 53)
abbrev s_is_integer : Stmt := (topS 3)
abbrev s_is_name : Stmt := (topS 4)
abbrev s_is_sequence : Stmt := (topS 5)
abbrev s_is_place : Stmt := (topS 6)
abbrev s_all_differ : Stmt := (topS 7)
abbrev s_split_words : Stmt := (topS 8)
abbrev s_is_mark_or : Stmt := (topS 25)
abbrev s_is_added : Stmt := (topS 26)
abbrev s_refuse_wrong_rows : Stmt := (topS 23)
abbrev s_Row_init : Stmt := (inClass (topS 19) 0)
abbrev s_Step_init : Stmt := (inClass (topS 20) 0)
abbrev s_Join_init : Stmt := (inClass (topS 21) 0)
abbrev s_Part_init : Stmt := (inClass (topS 22) 0)
abbrev s_Row_str : Stmt := (inClass (topS 19) 2)
abbrev s_Row_eq : Stmt := (inClass (topS 19) 1)
abbrev s_Row_named : Stmt := (inClass (topS 19) 4)
abbrev s_row_of_words : Stmt := (topS 28)
abbrev s_row_with_text : Stmt := (topS 27)
abbrev s_Row_read : Stmt := (inClass (topS 19) 3)
abbrev s_rows_of : Stmt := (topS 30)
abbrev s_fitting : Stmt := (topS 35)
abbrev s_or_same : Stmt := (topS 36)
abbrev s_of_both : Stmt := (topS 37)
abbrev s_step_table : Stmt := (topS 32)
abbrev s_all_steps : Stmt := (topS 31)
abbrev s_join_table : Stmt := (topS 33)
abbrev s_part_table : Stmt := (topS 34)
abbrev s_are_marks : Stmt := (topS 44)
abbrev s_are_words_of : Stmt := (topS 45)
abbrev s_refuse_wrong_books : Stmt := (topS 42)
abbrev s_Book_init : Stmt := (inClass (topS 41) 0)
abbrev s_lines : Stmt := (topS 46)
abbrev s_Book_str : Stmt := (inClass (topS 41) 2)
abbrev s_Book_eq : Stmt := (inClass (topS 41) 1)
abbrev s_can_stand : Stmt := (topS 48)
abbrev s_head : Stmt := (topS 47)
abbrev s_row : Stmt := (topS 49)
abbrev s_Book_read : Stmt := (inClass (topS 41) 6)
abbrev s_refuse_other_marks : Stmt := (topS 50)
abbrev s_Book_step : Stmt := (inClass (topS 41) 7)
abbrev s_Book_joined : Stmt := (inClass (topS 41) 8)
abbrev s_Book_parted : Stmt := (inClass (topS 41) 9)
abbrev s_Book_without : Stmt := (inClass (topS 41) 10)
abbrev s_asking_rows : Stmt := (topS 51)
abbrev s_Book_asking : Stmt := (inClass (topS 41) 11)
abbrev s_law : Stmt := (topS 54)
structure Ads where
  f_is_integer : Addr
  f_is_name : Addr
  f_is_sequence : Addr
  f_is_place : Addr
  f_all_differ : Addr
  f_split_words : Addr
  f_is_mark_or : Addr
  f_is_added : Addr
  f_refuse_wrong_rows : Addr
  f_row_of_words : Addr
  f_row_with_text : Addr
  f_rows_of : Addr
  f_fitting : Addr
  f_or_same : Addr
  f_of_both : Addr
  f_step_table : Addr
  f_all_steps : Addr
  f_join_table : Addr
  f_part_table : Addr
  f_are_marks : Addr
  f_are_words_of : Addr
  f_refuse_wrong_books : Addr
  f_lines : Addr
  f_can_stand : Addr
  f_head : Addr
  f_row : Addr
  f_refuse_other_marks : Addr
  f_asking_rows : Addr
  f_law : Addr
  f_law_number : Addr
  Row : Addr
  Step : Addr
  Join : Addr
  Part : Addr
  Book : Addr
  f_Step_init : Addr
  f_Row_str : Addr
  f_Row_eq : Addr
  f_Row_named : Addr
  f_Join_init : Addr
  f_Part_init : Addr
  f_Book_init : Addr
  f_Book_str : Addr
  f_Book_eq : Addr
  p_Book_read : Addr
  f_Book_read : Addr
  f_Book_step : Addr
  f_Book_joined : Addr
  f_Book_parted : Addr
  f_Book_without : Addr
  f_Book_asking : Addr
  f_Row_init : Addr
  p_Row_read : Addr
  f_Row_read : Addr
  ADDED : Addr
  KEYWORDS : Addr
  KINDS : Addr
  EDITS : Addr
  HEADS : Addr
structure Tx (A : Ads) (K : PySem.W.Frag) (mg : Str → Option Value) : Prop where
  z_abs : mg "abs" = none
  z_all : mg "all" = none
  z_bool : mg "bool" = none
  z_enumerate : mg "enumerate" = none
  z_int : mg "int" = none
  z_isinstance : mg "isinstance" = none
  z_len : mg "len" = none
  z_list : mg "list" = none
  z_range : mg "range" = none
  z_reversed : mg "reversed" = none
  z_set : mg "set" = none
  z_sorted : mg "sorted" = none
  z_str : mg "str" = none
  z_tuple : mg "tuple" = none
  d_is_integer : mg "is_integer" = some (.ref A.f_is_integer) ∧ ∃ fd, Fun K "is_integer" "is_integer" s_is_integer A.f_is_integer fd
  d_is_name : mg "is_name" = some (.ref A.f_is_name) ∧ ∃ fd, Fun K "is_name" "is_name" s_is_name A.f_is_name fd
  d_is_sequence : mg "is_sequence" = some (.ref A.f_is_sequence) ∧ ∃ fd, Fun K "is_sequence" "is_sequence" s_is_sequence A.f_is_sequence fd
  d_is_place : mg "is_place" = some (.ref A.f_is_place) ∧ ∃ fd, Fun K "is_place" "is_place" s_is_place A.f_is_place fd
  d_all_differ : mg "all_differ" = some (.ref A.f_all_differ) ∧ ∃ fd, Fun K "all_differ" "all_differ" s_all_differ A.f_all_differ fd
  d_split_words : mg "split_words" = some (.ref A.f_split_words) ∧ ∃ fd, Fun K "split_words" "split_words" s_split_words A.f_split_words fd
  d_is_mark_or : mg "_is_mark_or" = some (.ref A.f_is_mark_or) ∧ ∃ fd, Fun K "_is_mark_or" "_is_mark_or" s_is_mark_or A.f_is_mark_or fd
  d_is_added : mg "_is_added" = some (.ref A.f_is_added) ∧ ∃ fd, Fun K "_is_added" "_is_added" s_is_added A.f_is_added fd
  d_refuse_wrong_rows : mg "refuse_wrong_rows" = some (.ref A.f_refuse_wrong_rows) ∧ ∃ fd, Fun K "_refuse_wrong" "_refuse_wrong" s_refuse_wrong_rows A.f_refuse_wrong_rows fd
  d_row_of_words : mg "_row_of_words" = some (.ref A.f_row_of_words) ∧ ∃ fd, Fun K "_row_of_words" "_row_of_words" s_row_of_words A.f_row_of_words fd
  d_row_with_text : mg "_row_with_text" = some (.ref A.f_row_with_text) ∧ ∃ fd, Fun K "_row_with_text" "_row_with_text" s_row_with_text A.f_row_with_text fd
  d_rows_of : mg "rows_of" = some (.ref A.f_rows_of) ∧ ∃ fd, Fun K "rows_of" "rows_of" s_rows_of A.f_rows_of fd
  d_fitting : mg "_fitting" = some (.ref A.f_fitting) ∧ ∃ fd, Fun K "_fitting" "_fitting" s_fitting A.f_fitting fd
  d_or_same : mg "_or_same" = some (.ref A.f_or_same) ∧ ∃ fd, Fun K "_or_same" "_or_same" s_or_same A.f_or_same fd
  d_of_both : mg "_of_both" = some (.ref A.f_of_both) ∧ ∃ fd, Fun K "_of_both" "_of_both" s_of_both A.f_of_both fd
  d_step_table : mg "step_table" = some (.ref A.f_step_table) ∧ ∃ fd, Fun K "step_table" "step_table" s_step_table A.f_step_table fd
  d_all_steps : mg "all_steps" = some (.ref A.f_all_steps) ∧ ∃ fd, Fun K "all_steps" "all_steps" s_all_steps A.f_all_steps fd
  d_join_table : mg "join_table" = some (.ref A.f_join_table) ∧ ∃ fd, Fun K "join_table" "join_table" s_join_table A.f_join_table fd
  d_part_table : mg "part_table" = some (.ref A.f_part_table) ∧ ∃ fd, Fun K "part_table" "part_table" s_part_table A.f_part_table fd
  d_are_marks : mg "_are_marks" = some (.ref A.f_are_marks) ∧ ∃ fd, Fun K "_are_marks" "_are_marks" s_are_marks A.f_are_marks fd
  d_are_words_of : mg "_are_words_of" = some (.ref A.f_are_words_of) ∧ ∃ fd, Fun K "_are_words_of" "_are_words_of" s_are_words_of A.f_are_words_of fd
  d_refuse_wrong_books : mg "refuse_wrong_books" = some (.ref A.f_refuse_wrong_books) ∧ ∃ fd, Fun K "_refuse_wrong" "_refuse_wrong" s_refuse_wrong_books A.f_refuse_wrong_books fd
  d_lines : mg "_lines" = some (.ref A.f_lines) ∧ ∃ fd, Fun K "_lines" "_lines" s_lines A.f_lines fd
  d_can_stand : mg "_can_stand" = some (.ref A.f_can_stand) ∧ ∃ fd, Fun K "_can_stand" "_can_stand" s_can_stand A.f_can_stand fd
  d_head : mg "_head" = some (.ref A.f_head) ∧ ∃ fd, Fun K "_head" "_head" s_head A.f_head fd
  d_row : mg "_row" = some (.ref A.f_row) ∧ ∃ fd, Fun K "_row" "_row" s_row A.f_row fd
  d_refuse_other_marks : mg "_refuse_other_marks" = some (.ref A.f_refuse_other_marks) ∧ ∃ fd, Fun K "_refuse_other_marks" "_refuse_other_marks" s_refuse_other_marks A.f_refuse_other_marks fd
  d_asking_rows : mg "_asking_rows" = some (.ref A.f_asking_rows) ∧ ∃ fd, Fun K "_asking_rows" "_asking_rows" s_asking_rows A.f_asking_rows fd
  d_law : mg "law" = some (.ref A.f_law) ∧ ∃ fd, Fun K "law" "law" s_law A.f_law fd
  d_law_number : mg "_law_number" = some (.ref A.f_law_number) ∧ ∃ fd, Fun K "_law_number" "_law_number" s_law_number A.f_law_number fd
  g_Row : mg "Row" = some (.ref A.Row)
  g_Step : mg "Step" = some (.ref A.Step)
  g_Join : mg "Join" = some (.ref A.Join)
  g_Part : mg "Part" = some (.ref A.Part)
  g_Book : mg "Book" = some (.ref A.Book)
  o_Row : OwnC K A.Row
  o_Step : OwnC K A.Step
  o_Join : OwnC K A.Join
  o_Part : OwnC K A.Part
  o_Book : OwnC K A.Book
  m_Step_init : PySem.W.findIn K (.ref A.Step) "__init__" = some (some (.ref A.f_Step_init))
  i_f_Step_init : PySem.W.isFn K (.ref A.f_Step_init) = true
  d_Step_init : ∃ fd, Fun K "__init__" "Step.__init__" s_Step_init A.f_Step_init fd
  m_Step_str : PySem.W.findIn K (.ref A.Step) "__str__" = some (some (.ref A.f_Row_str))
  i_f_Row_str : PySem.W.isFn K (.ref A.f_Row_str) = true
  d_Row_str : ∃ fd, Fun K "__str__" "Row.__str__" s_Row_str A.f_Row_str fd
  m_Step_eq : PySem.W.findIn K (.ref A.Step) "__eq__" = some (some (.ref A.f_Row_eq))
  i_f_Row_eq : PySem.W.isFn K (.ref A.f_Row_eq) = true
  d_Row_eq : ∃ fd, Fun K "__eq__" "Row.__eq__" s_Row_eq A.f_Row_eq fd
  m_Step_named : PySem.W.findIn K (.ref A.Step) "named" = some (some (.ref A.f_Row_named))
  i_f_Row_named : PySem.W.isFn K (.ref A.f_Row_named) = true
  d_Row_named : ∃ fd, Fun K "named" "Row.named" s_Row_named A.f_Row_named fd
  m_Join_init : PySem.W.findIn K (.ref A.Join) "__init__" = some (some (.ref A.f_Join_init))
  i_f_Join_init : PySem.W.isFn K (.ref A.f_Join_init) = true
  d_Join_init : ∃ fd, Fun K "__init__" "Join.__init__" s_Join_init A.f_Join_init fd
  m_Join_str : PySem.W.findIn K (.ref A.Join) "__str__" = some (some (.ref A.f_Row_str))
  m_Join_eq : PySem.W.findIn K (.ref A.Join) "__eq__" = some (some (.ref A.f_Row_eq))
  m_Join_named : PySem.W.findIn K (.ref A.Join) "named" = some (some (.ref A.f_Row_named))
  m_Part_init : PySem.W.findIn K (.ref A.Part) "__init__" = some (some (.ref A.f_Part_init))
  i_f_Part_init : PySem.W.isFn K (.ref A.f_Part_init) = true
  d_Part_init : ∃ fd, Fun K "__init__" "Part.__init__" s_Part_init A.f_Part_init fd
  m_Part_str : PySem.W.findIn K (.ref A.Part) "__str__" = some (some (.ref A.f_Row_str))
  m_Part_eq : PySem.W.findIn K (.ref A.Part) "__eq__" = some (some (.ref A.f_Row_eq))
  m_Part_named : PySem.W.findIn K (.ref A.Part) "named" = some (some (.ref A.f_Row_named))
  m_Book_init : PySem.W.findIn K (.ref A.Book) "__init__" = some (some (.ref A.f_Book_init))
  i_f_Book_init : PySem.W.isFn K (.ref A.f_Book_init) = true
  d_Book_init : ∃ fd, Fun K "__init__" "Book.__init__" s_Book_init A.f_Book_init fd
  m_Book_str : PySem.W.findIn K (.ref A.Book) "__str__" = some (some (.ref A.f_Book_str))
  i_f_Book_str : PySem.W.isFn K (.ref A.f_Book_str) = true
  d_Book_str : ∃ fd, Fun K "__str__" "Book.__str__" s_Book_str A.f_Book_str fd
  m_Book_eq : PySem.W.findIn K (.ref A.Book) "__eq__" = some (some (.ref A.f_Book_eq))
  i_f_Book_eq : PySem.W.isFn K (.ref A.f_Book_eq) = true
  d_Book_eq : ∃ fd, Fun K "__eq__" "Book.__eq__" s_Book_eq A.f_Book_eq fd
  c_Book_read : ClX.CMet K A.Book (.type "type") "read" A.p_Book_read A.f_Book_read
  d_Book_read : ∃ fd, Fun K "read" "Book.read" s_Book_read A.f_Book_read fd
  m_Book_step : PySem.W.findIn K (.ref A.Book) "step" = some (some (.ref A.f_Book_step))
  i_f_Book_step : PySem.W.isFn K (.ref A.f_Book_step) = true
  d_Book_step : ∃ fd, Fun K "step" "Book.step" s_Book_step A.f_Book_step fd
  m_Book_joined : PySem.W.findIn K (.ref A.Book) "joined" = some (some (.ref A.f_Book_joined))
  i_f_Book_joined : PySem.W.isFn K (.ref A.f_Book_joined) = true
  d_Book_joined : ∃ fd, Fun K "joined" "Book.joined" s_Book_joined A.f_Book_joined fd
  m_Book_parted : PySem.W.findIn K (.ref A.Book) "parted" = some (some (.ref A.f_Book_parted))
  i_f_Book_parted : PySem.W.isFn K (.ref A.f_Book_parted) = true
  d_Book_parted : ∃ fd, Fun K "parted" "Book.parted" s_Book_parted A.f_Book_parted fd
  m_Book_without : PySem.W.findIn K (.ref A.Book) "without" = some (some (.ref A.f_Book_without))
  i_f_Book_without : PySem.W.isFn K (.ref A.f_Book_without) = true
  d_Book_without : ∃ fd, Fun K "without" "Book.without" s_Book_without A.f_Book_without fd
  m_Book_asking : PySem.W.findIn K (.ref A.Book) "asking" = some (some (.ref A.f_Book_asking))
  i_f_Book_asking : PySem.W.isFn K (.ref A.f_Book_asking) = true
  d_Book_asking : ∃ fd, Fun K "asking" "Book.asking" s_Book_asking A.f_Book_asking fd
  m_Row_init : PySem.W.findIn K (.ref A.Row) "__init__" = some (some (.ref A.f_Row_init))
  i_f_Row_init : PySem.W.isFn K (.ref A.f_Row_init) = true
  d_Row_init : ∃ fd, Fun K "__init__" "Row.__init__" s_Row_init A.f_Row_init fd
  c_Row_read : ClX.CMet K A.Row (.type "type") "read" A.p_Row_read A.f_Row_read
  d_Row_read : ∃ fd, Fun K "read" "Row.read" s_Row_read A.f_Row_read fd
  g_ADDED : mg "ADDED" = some (.ref A.ADDED)
  g_KEYWORDS : mg "KEYWORDS" = some (.ref A.KEYWORDS)
  t_KEYWORDS : ∀ H, SqT K H A.KEYWORDS [.str "any", .str "by", .str "one", .str "same", .str "to"]
  g_KINDS : mg "KINDS" = some (.ref A.KINDS)
  t_KINDS : ∀ H, SqT K H A.KINDS [.str "yes", .str "no", .str "late yes", .str "late no", .str "word", .str "strike", .str "back", .str "cut"]
  g_EDITS : mg "EDITS" = some (.ref A.EDITS)
  t_EDITS : ∀ H, SqT K H A.EDITS [.str "back", .str "cut", .str "join", .str "part", .str "word"]
  g_HEADS : mg "HEADS" = some (.ref A.HEADS)
  t_HEADS : ∀ H, SqT K H A.HEADS [.str "marks", .str "counted", .str "keeps"]
  na_Step_words : NoAttr K A.Step "words"
  na_Step_kind : NoAttr K A.Step "kind"
  na_Step_old : NoAttr K A.Step "old"
  na_Step_then : NoAttr K A.Step "then"
  na_Step_add : NoAttr K A.Step "add"
  na_Join_words : NoAttr K A.Join "words"
  na_Join_here : NoAttr K A.Join "here"
  na_Join_there : NoAttr K A.Join "there"
  na_Join_then : NoAttr K A.Join "then"
  na_Join_add : NoAttr K A.Join "add"
  na_Part_words : NoAttr K A.Part "words"
  na_Part_old : NoAttr K A.Part "old"
  na_Part_left : NoAttr K A.Part "left"
  na_Part_right : NoAttr K A.Part "right"
  na_Part_add : NoAttr K A.Part "add"
  na_Part_more : NoAttr K A.Part "more"
  na_Book_marks : NoAttr K A.Book "marks"
  na_Book_counted : NoAttr K A.Book "counted"
  na_Book_keeps : NoAttr K A.Book "keeps"
  na_Book_rows : NoAttr K A.Book "rows"
  na_Book_blank : NoAttr K A.Book "blank"
  na_Book_worth : NoAttr K A.Book "worth"
  na_Book_steps : NoAttr K A.Book "steps"
  na_Book_joins : NoAttr K A.Book "joins"
  na_Book_parts : NoAttr K A.Book "parts"
  kp_Row_init : PySem.W.keepIn K (.ref A.f_Row_init) = true
  kp_Step_init : PySem.W.keepIn K (.ref A.f_Step_init) = true
  kp_Join_init : PySem.W.keepIn K (.ref A.f_Join_init) = true
  kp_Part_init : PySem.W.keepIn K (.ref A.f_Part_init) = true
  kp_Row_str : PySem.W.keepIn K (.ref A.f_Row_str) = true
  kp_Row_eq : PySem.W.keepIn K (.ref A.f_Row_eq) = true
  kp_Row_named : PySem.W.keepIn K (.ref A.f_Row_named) = true
  kp_Book_init : PySem.W.keepIn K (.ref A.f_Book_init) = true
  kp_Book_str : PySem.W.keepIn K (.ref A.f_Book_str) = true
  kp_Book_eq : PySem.W.keepIn K (.ref A.f_Book_eq) = true
  kp_Book_step : PySem.W.keepIn K (.ref A.f_Book_step) = true
  kp_Book_joined : PySem.W.keepIn K (.ref A.f_Book_joined) = true
  kp_Book_parted : PySem.W.keepIn K (.ref A.f_Book_parted) = true
  kp_Book_without : PySem.W.keepIn K (.ref A.f_Book_without) = true
  kp_Book_asking : PySem.W.keepIn K (.ref A.f_Book_asking) = true
  off_Row : PySem.W.findCls K (.ref A.Row) (.type "type") "__init__" = some (.val (.ref A.f_Row_init))
  rd_Row : PySem.W.readsIn K A.Row (.type "type") = true
  ga_Row : PySem.W.specialIn K (.ref A.Row) "__getattribute__" = some (some (.builtin "type.__getattribute__"))
  rd_Book : PySem.W.readsIn K A.Book (.type "type") = true
  ga_Book : PySem.W.specialIn K (.ref A.Book) "__getattribute__" = some (some (.builtin "type.__getattribute__"))
  ogt : PySem.W.specialIn K (.builtin "object.__class__") "__get__" = some (some (.builtin "getset_descriptor.__get__"))
  otk : PySem.W.takesIn K (.builtin "object.__class__") = some true
  su_Step_Row : PySem.W.subIn K (.ref A.Step) (.ref A.Row) = some true
  su_Join_Row : PySem.W.subIn K (.ref A.Join) (.ref A.Row) = some true
  su_Part_Row : PySem.W.subIn K (.ref A.Part) (.ref A.Row) = some true
  su_Book_Row : PySem.W.subIn K (.ref A.Book) (.ref A.Row) = some false
  sb_str_Row : PySem.W.subIn K (.type "str") (.ref A.Row) = some false
  sb_int_Row : PySem.W.subIn K (.type "int") (.ref A.Row) = some false
  sb_bool_Row : PySem.W.subIn K (.type "bool") (.ref A.Row) = some false
  sb_NoneType_Row : PySem.W.subIn K (.type "NoneType") (.ref A.Row) = some false
  sb_list_Row : PySem.W.subIn K (.type "list") (.ref A.Row) = some false
  sb_tuple_Row : PySem.W.subIn K (.type "tuple") (.ref A.Row) = some false
  su_Step_Book : PySem.W.subIn K (.ref A.Step) (.ref A.Book) = some false
  su_Join_Book : PySem.W.subIn K (.ref A.Join) (.ref A.Book) = some false
  su_Part_Book : PySem.W.subIn K (.ref A.Part) (.ref A.Book) = some false
  sb_str_Book : PySem.W.subIn K (.type "str") (.ref A.Book) = some false
  sb_int_Book : PySem.W.subIn K (.type "int") (.ref A.Book) = some false
  sb_bool_Book : PySem.W.subIn K (.type "bool") (.ref A.Book) = some false
  sb_NoneType_Book : PySem.W.subIn K (.type "NoneType") (.ref A.Book) = some false
  sb_list_Book : PySem.W.subIn K (.type "list") (.ref A.Book) = some false
  sb_tuple_Book : PySem.W.subIn K (.type "tuple") (.ref A.Book) = some false
structure TxW (A : Ads) (K : PySem.W.Frag) (w : World) : Prop where
  d_ADDED : KDictV K w A.ADDED [("-3", .int (-3)), ("-2", .int (-2)), ("-1", .int (-1)), ("0", .int 0), ("1", .int 1), ("2", .int 2), ("3", .int 3)]

section
variable {P : Program} {w : World} {A : Ads} {K : PySem.W.Frag} {mg : Str → Option Value} {base : Heap} {D : Sp}
def clA (A : Ads) : Nat → Addr
  | 6 => A.Row
  | 7 => A.Step
  | 8 => A.Join
  | 9 => A.Part
  | 10 => A.Book
  | _ => A.Row
abbrev vcx (A : Ads) (K : PySem.W.Frag) (w : World) (D : Sp) : VC := { K := K, w := w, cl := clA A, dsp := D, dok := fun y lo n => (∃ k : Nat, k ≤ 20 ∧ y = .int k) ∧ lo = (-3) ∧ n = 7 }
def tb_ADDED : List (List Nat × Int) := [([45, 51], -3), ([45, 50], -2), ([45, 49], -1), ([48], 0), ([49], 1), ([50], 2), ([51], 3)]
theorem tb_ADDED_eq : ([("-3", .int (-3)), ("-2", .int (-2)), ("-1", .int (-1)), ("0", .int 0), ("1", .int 1), ("2", .int 2), ("3", .int 3)] : List (Str × V)) = tb_ADDED.map fun p => (zs p.1, V.int p.2) := by
  unfold tb_ADDED
  simp only [List.map_cons, List.map_nil, ← lt42, ← lt43, ← lt44, ← lt45, ← lt46, ← lt47, ← lt48]
def k_KEYWORDS : T := .kt [.str [97, 110, 121], .str [98, 121], .str [111, 110, 101], .str [115, 97, 109, 101], .str [116, 111]]
theorem rp_KEYWORDS (T : Tx A K mg) (R : Res) (H : Hp) : Rep (vcx A K w D) R k_KEYWORDS (.ref A.KEYWORDS) H := .kt (fun H => T.t_KEYWORDS H) (.cons (rp_lit lt8) (.cons (rp_lit lt11) (.cons (rp_lit lt14) (.cons (rp_lit lt6) (.cons (rp_lit lt12) .nil)))))
def k_KINDS : T := .kt [.str [121, 101, 115], .str [110, 111], .str [108, 97, 116, 101, 32, 121, 101, 115], .str [108, 97, 116, 101, 32, 110, 111], .str [119, 111, 114, 100], .str [115, 116, 114, 105, 107, 101], .str [98, 97, 99, 107], .str [99, 117, 116]]
theorem rp_KINDS (T : Tx A K mg) (R : Res) (H : Hp) : Rep (vcx A K w D) R k_KINDS (.ref A.KINDS) H := .kt (fun H => T.t_KINDS H) (.cons (rp_lit lt49) (.cons (rp_lit lt35) (.cons (rp_lit lt33) (.cons (rp_lit lt50) (.cons (rp_lit lt51) (.cons (rp_lit lt52) (.cons (rp_lit lt53) (.cons (rp_lit lt36) .nil))))))))
def k_EDITS : T := .kt [.str [98, 97, 99, 107], .str [99, 117, 116], .str [106, 111, 105, 110], .str [112, 97, 114, 116], .str [119, 111, 114, 100]]
theorem rp_EDITS (T : Tx A K mg) (R : Res) (H : Hp) : Rep (vcx A K w D) R k_EDITS (.ref A.EDITS) H := .kt (fun H => T.t_EDITS H) (.cons (rp_lit lt53) (.cons (rp_lit lt36) (.cons (rp_lit lt17) (.cons (rp_lit lt21) (.cons (rp_lit lt51) .nil)))))
def k_HEADS : T := .kt [.str [109, 97, 114, 107, 115], .str [99, 111, 117, 110, 116, 101, 100], .str [107, 101, 101, 112, 115]]
theorem rp_HEADS (T : Tx A K mg) (R : Res) (H : Hp) : Rep (vcx A K w D) R k_HEADS (.ref A.HEADS) H := .kt (fun H => T.t_HEADS H) (.cons (rp_lit lt23) (.cons (rp_lit lt24) (.cons (rp_lit lt25) .nil)))
theorem fa_words (T : Tx A K mg) : ∀ c, c ∈ ([7, 8, 9] : List Nat) → Cls (vcx A K w D).K ((vcx A K w D).cl c) ∧ NoAttr (vcx A K w D).K ((vcx A K w D).cl c) "words" := by
  intro c hc
  simp only [List.mem_cons, List.not_mem_nil, or_false] at hc
  rcases hc with rfl | rfl | rfl
  · exact ⟨T.o_Step.cls, T.na_Step_words⟩
  · exact ⟨T.o_Join.cls, T.na_Join_words⟩
  · exact ⟨T.o_Part.cls, T.na_Part_words⟩
theorem fa_kind (T : Tx A K mg) : ∀ c, c ∈ ([7] : List Nat) → Cls (vcx A K w D).K ((vcx A K w D).cl c) ∧ NoAttr (vcx A K w D).K ((vcx A K w D).cl c) "kind" := by
  intro c hc
  simp only [List.mem_cons, List.not_mem_nil, or_false] at hc
  rcases hc with rfl
  · exact ⟨T.o_Step.cls, T.na_Step_kind⟩
theorem fa_old (T : Tx A K mg) : ∀ c, c ∈ ([7, 9] : List Nat) → Cls (vcx A K w D).K ((vcx A K w D).cl c) ∧ NoAttr (vcx A K w D).K ((vcx A K w D).cl c) "old" := by
  intro c hc
  simp only [List.mem_cons, List.not_mem_nil, or_false] at hc
  rcases hc with rfl | rfl
  · exact ⟨T.o_Step.cls, T.na_Step_old⟩
  · exact ⟨T.o_Part.cls, T.na_Part_old⟩
theorem fa_then (T : Tx A K mg) : ∀ c, c ∈ ([7, 8] : List Nat) → Cls (vcx A K w D).K ((vcx A K w D).cl c) ∧ NoAttr (vcx A K w D).K ((vcx A K w D).cl c) "then" := by
  intro c hc
  simp only [List.mem_cons, List.not_mem_nil, or_false] at hc
  rcases hc with rfl | rfl
  · exact ⟨T.o_Step.cls, T.na_Step_then⟩
  · exact ⟨T.o_Join.cls, T.na_Join_then⟩
theorem fa_add (T : Tx A K mg) : ∀ c, c ∈ ([7, 8, 9] : List Nat) → Cls (vcx A K w D).K ((vcx A K w D).cl c) ∧ NoAttr (vcx A K w D).K ((vcx A K w D).cl c) "add" := by
  intro c hc
  simp only [List.mem_cons, List.not_mem_nil, or_false] at hc
  rcases hc with rfl | rfl | rfl
  · exact ⟨T.o_Step.cls, T.na_Step_add⟩
  · exact ⟨T.o_Join.cls, T.na_Join_add⟩
  · exact ⟨T.o_Part.cls, T.na_Part_add⟩
theorem fa_here (T : Tx A K mg) : ∀ c, c ∈ ([8] : List Nat) → Cls (vcx A K w D).K ((vcx A K w D).cl c) ∧ NoAttr (vcx A K w D).K ((vcx A K w D).cl c) "here" := by
  intro c hc
  simp only [List.mem_cons, List.not_mem_nil, or_false] at hc
  rcases hc with rfl
  · exact ⟨T.o_Join.cls, T.na_Join_here⟩
theorem fa_there (T : Tx A K mg) : ∀ c, c ∈ ([8] : List Nat) → Cls (vcx A K w D).K ((vcx A K w D).cl c) ∧ NoAttr (vcx A K w D).K ((vcx A K w D).cl c) "there" := by
  intro c hc
  simp only [List.mem_cons, List.not_mem_nil, or_false] at hc
  rcases hc with rfl
  · exact ⟨T.o_Join.cls, T.na_Join_there⟩
theorem fa_left (T : Tx A K mg) : ∀ c, c ∈ ([9] : List Nat) → Cls (vcx A K w D).K ((vcx A K w D).cl c) ∧ NoAttr (vcx A K w D).K ((vcx A K w D).cl c) "left" := by
  intro c hc
  simp only [List.mem_cons, List.not_mem_nil, or_false] at hc
  rcases hc with rfl
  · exact ⟨T.o_Part.cls, T.na_Part_left⟩
theorem fa_right (T : Tx A K mg) : ∀ c, c ∈ ([9] : List Nat) → Cls (vcx A K w D).K ((vcx A K w D).cl c) ∧ NoAttr (vcx A K w D).K ((vcx A K w D).cl c) "right" := by
  intro c hc
  simp only [List.mem_cons, List.not_mem_nil, or_false] at hc
  rcases hc with rfl
  · exact ⟨T.o_Part.cls, T.na_Part_right⟩
theorem fa_more (T : Tx A K mg) : ∀ c, c ∈ ([9] : List Nat) → Cls (vcx A K w D).K ((vcx A K w D).cl c) ∧ NoAttr (vcx A K w D).K ((vcx A K w D).cl c) "more" := by
  intro c hc
  simp only [List.mem_cons, List.not_mem_nil, or_false] at hc
  rcases hc with rfl
  · exact ⟨T.o_Part.cls, T.na_Part_more⟩
theorem fa_marks (T : Tx A K mg) : ∀ c, c ∈ ([10] : List Nat) → Cls (vcx A K w D).K ((vcx A K w D).cl c) ∧ NoAttr (vcx A K w D).K ((vcx A K w D).cl c) "marks" := by
  intro c hc
  simp only [List.mem_cons, List.not_mem_nil, or_false] at hc
  rcases hc with rfl
  · exact ⟨T.o_Book.cls, T.na_Book_marks⟩
theorem fa_counted (T : Tx A K mg) : ∀ c, c ∈ ([10] : List Nat) → Cls (vcx A K w D).K ((vcx A K w D).cl c) ∧ NoAttr (vcx A K w D).K ((vcx A K w D).cl c) "counted" := by
  intro c hc
  simp only [List.mem_cons, List.not_mem_nil, or_false] at hc
  rcases hc with rfl
  · exact ⟨T.o_Book.cls, T.na_Book_counted⟩
theorem fa_keeps (T : Tx A K mg) : ∀ c, c ∈ ([10] : List Nat) → Cls (vcx A K w D).K ((vcx A K w D).cl c) ∧ NoAttr (vcx A K w D).K ((vcx A K w D).cl c) "keeps" := by
  intro c hc
  simp only [List.mem_cons, List.not_mem_nil, or_false] at hc
  rcases hc with rfl
  · exact ⟨T.o_Book.cls, T.na_Book_keeps⟩
theorem fa_rows (T : Tx A K mg) : ∀ c, c ∈ ([10] : List Nat) → Cls (vcx A K w D).K ((vcx A K w D).cl c) ∧ NoAttr (vcx A K w D).K ((vcx A K w D).cl c) "rows" := by
  intro c hc
  simp only [List.mem_cons, List.not_mem_nil, or_false] at hc
  rcases hc with rfl
  · exact ⟨T.o_Book.cls, T.na_Book_rows⟩
theorem fa_blank (T : Tx A K mg) : ∀ c, c ∈ ([10] : List Nat) → Cls (vcx A K w D).K ((vcx A K w D).cl c) ∧ NoAttr (vcx A K w D).K ((vcx A K w D).cl c) "blank" := by
  intro c hc
  simp only [List.mem_cons, List.not_mem_nil, or_false] at hc
  rcases hc with rfl
  · exact ⟨T.o_Book.cls, T.na_Book_blank⟩
theorem fa_worth (T : Tx A K mg) : ∀ c, c ∈ ([10] : List Nat) → Cls (vcx A K w D).K ((vcx A K w D).cl c) ∧ NoAttr (vcx A K w D).K ((vcx A K w D).cl c) "worth" := by
  intro c hc
  simp only [List.mem_cons, List.not_mem_nil, or_false] at hc
  rcases hc with rfl
  · exact ⟨T.o_Book.cls, T.na_Book_worth⟩
theorem fa_steps (T : Tx A K mg) : ∀ c, c ∈ ([10] : List Nat) → Cls (vcx A K w D).K ((vcx A K w D).cl c) ∧ NoAttr (vcx A K w D).K ((vcx A K w D).cl c) "steps" := by
  intro c hc
  simp only [List.mem_cons, List.not_mem_nil, or_false] at hc
  rcases hc with rfl
  · exact ⟨T.o_Book.cls, T.na_Book_steps⟩
theorem fa_joins (T : Tx A K mg) : ∀ c, c ∈ ([10] : List Nat) → Cls (vcx A K w D).K ((vcx A K w D).cl c) ∧ NoAttr (vcx A K w D).K ((vcx A K w D).cl c) "joins" := by
  intro c hc
  simp only [List.mem_cons, List.not_mem_nil, or_false] at hc
  rcases hc with rfl
  · exact ⟨T.o_Book.cls, T.na_Book_joins⟩
theorem fa_parts (T : Tx A K mg) : ∀ c, c ∈ ([10] : List Nat) → Cls (vcx A K w D).K ((vcx A K w D).cl c) ∧ NoAttr (vcx A K w D).K ((vcx A K w D).cl c) "parts" := by
  intro c hc
  simp only [List.mem_cons, List.not_mem_nil, or_false] at hc
  rcases hc with rfl
  · exact ⟨T.o_Book.cls, T.na_Book_parts⟩
theorem fi_Row_words (T : Tx A K mg) : ∀ c, c ∈ ([7, 8, 9] : List Nat) → Cls (vcx A K w D).K ((vcx A K w D).cl c) ∧ NoAttr (vcx A K w D).K ((vcx A K w D).cl c) "words" := by
  intro c hc
  simp only [List.mem_cons, List.not_mem_nil, or_false] at hc
  rcases hc with rfl | rfl | rfl
  · exact ⟨T.o_Step.cls, T.na_Step_words⟩
  · exact ⟨T.o_Join.cls, T.na_Join_words⟩
  · exact ⟨T.o_Part.cls, T.na_Part_words⟩
theorem fi_Step_words (T : Tx A K mg) : ∀ c, c ∈ ([7] : List Nat) → Cls (vcx A K w D).K ((vcx A K w D).cl c) ∧ NoAttr (vcx A K w D).K ((vcx A K w D).cl c) "words" := by
  intro c hc
  simp only [List.mem_cons, List.not_mem_nil, or_false] at hc
  rcases hc with rfl
  · exact ⟨T.o_Step.cls, T.na_Step_words⟩
theorem fi_Step_kind (T : Tx A K mg) : ∀ c, c ∈ ([7] : List Nat) → Cls (vcx A K w D).K ((vcx A K w D).cl c) ∧ NoAttr (vcx A K w D).K ((vcx A K w D).cl c) "kind" := by
  intro c hc
  simp only [List.mem_cons, List.not_mem_nil, or_false] at hc
  rcases hc with rfl
  · exact ⟨T.o_Step.cls, T.na_Step_kind⟩
theorem fi_Step_old (T : Tx A K mg) : ∀ c, c ∈ ([7] : List Nat) → Cls (vcx A K w D).K ((vcx A K w D).cl c) ∧ NoAttr (vcx A K w D).K ((vcx A K w D).cl c) "old" := by
  intro c hc
  simp only [List.mem_cons, List.not_mem_nil, or_false] at hc
  rcases hc with rfl
  · exact ⟨T.o_Step.cls, T.na_Step_old⟩
theorem fi_Step_then (T : Tx A K mg) : ∀ c, c ∈ ([7] : List Nat) → Cls (vcx A K w D).K ((vcx A K w D).cl c) ∧ NoAttr (vcx A K w D).K ((vcx A K w D).cl c) "then" := by
  intro c hc
  simp only [List.mem_cons, List.not_mem_nil, or_false] at hc
  rcases hc with rfl
  · exact ⟨T.o_Step.cls, T.na_Step_then⟩
theorem fi_Step_add (T : Tx A K mg) : ∀ c, c ∈ ([7] : List Nat) → Cls (vcx A K w D).K ((vcx A K w D).cl c) ∧ NoAttr (vcx A K w D).K ((vcx A K w D).cl c) "add" := by
  intro c hc
  simp only [List.mem_cons, List.not_mem_nil, or_false] at hc
  rcases hc with rfl
  · exact ⟨T.o_Step.cls, T.na_Step_add⟩
theorem fi_Join_words (T : Tx A K mg) : ∀ c, c ∈ ([8] : List Nat) → Cls (vcx A K w D).K ((vcx A K w D).cl c) ∧ NoAttr (vcx A K w D).K ((vcx A K w D).cl c) "words" := by
  intro c hc
  simp only [List.mem_cons, List.not_mem_nil, or_false] at hc
  rcases hc with rfl
  · exact ⟨T.o_Join.cls, T.na_Join_words⟩
theorem fi_Join_here (T : Tx A K mg) : ∀ c, c ∈ ([8] : List Nat) → Cls (vcx A K w D).K ((vcx A K w D).cl c) ∧ NoAttr (vcx A K w D).K ((vcx A K w D).cl c) "here" := by
  intro c hc
  simp only [List.mem_cons, List.not_mem_nil, or_false] at hc
  rcases hc with rfl
  · exact ⟨T.o_Join.cls, T.na_Join_here⟩
theorem fi_Join_there (T : Tx A K mg) : ∀ c, c ∈ ([8] : List Nat) → Cls (vcx A K w D).K ((vcx A K w D).cl c) ∧ NoAttr (vcx A K w D).K ((vcx A K w D).cl c) "there" := by
  intro c hc
  simp only [List.mem_cons, List.not_mem_nil, or_false] at hc
  rcases hc with rfl
  · exact ⟨T.o_Join.cls, T.na_Join_there⟩
theorem fi_Join_then (T : Tx A K mg) : ∀ c, c ∈ ([8] : List Nat) → Cls (vcx A K w D).K ((vcx A K w D).cl c) ∧ NoAttr (vcx A K w D).K ((vcx A K w D).cl c) "then" := by
  intro c hc
  simp only [List.mem_cons, List.not_mem_nil, or_false] at hc
  rcases hc with rfl
  · exact ⟨T.o_Join.cls, T.na_Join_then⟩
theorem fi_Join_add (T : Tx A K mg) : ∀ c, c ∈ ([8] : List Nat) → Cls (vcx A K w D).K ((vcx A K w D).cl c) ∧ NoAttr (vcx A K w D).K ((vcx A K w D).cl c) "add" := by
  intro c hc
  simp only [List.mem_cons, List.not_mem_nil, or_false] at hc
  rcases hc with rfl
  · exact ⟨T.o_Join.cls, T.na_Join_add⟩
theorem fi_Part_words (T : Tx A K mg) : ∀ c, c ∈ ([9] : List Nat) → Cls (vcx A K w D).K ((vcx A K w D).cl c) ∧ NoAttr (vcx A K w D).K ((vcx A K w D).cl c) "words" := by
  intro c hc
  simp only [List.mem_cons, List.not_mem_nil, or_false] at hc
  rcases hc with rfl
  · exact ⟨T.o_Part.cls, T.na_Part_words⟩
theorem fi_Part_old (T : Tx A K mg) : ∀ c, c ∈ ([9] : List Nat) → Cls (vcx A K w D).K ((vcx A K w D).cl c) ∧ NoAttr (vcx A K w D).K ((vcx A K w D).cl c) "old" := by
  intro c hc
  simp only [List.mem_cons, List.not_mem_nil, or_false] at hc
  rcases hc with rfl
  · exact ⟨T.o_Part.cls, T.na_Part_old⟩
theorem fi_Part_left (T : Tx A K mg) : ∀ c, c ∈ ([9] : List Nat) → Cls (vcx A K w D).K ((vcx A K w D).cl c) ∧ NoAttr (vcx A K w D).K ((vcx A K w D).cl c) "left" := by
  intro c hc
  simp only [List.mem_cons, List.not_mem_nil, or_false] at hc
  rcases hc with rfl
  · exact ⟨T.o_Part.cls, T.na_Part_left⟩
theorem fi_Part_right (T : Tx A K mg) : ∀ c, c ∈ ([9] : List Nat) → Cls (vcx A K w D).K ((vcx A K w D).cl c) ∧ NoAttr (vcx A K w D).K ((vcx A K w D).cl c) "right" := by
  intro c hc
  simp only [List.mem_cons, List.not_mem_nil, or_false] at hc
  rcases hc with rfl
  · exact ⟨T.o_Part.cls, T.na_Part_right⟩
theorem fi_Part_add (T : Tx A K mg) : ∀ c, c ∈ ([9] : List Nat) → Cls (vcx A K w D).K ((vcx A K w D).cl c) ∧ NoAttr (vcx A K w D).K ((vcx A K w D).cl c) "add" := by
  intro c hc
  simp only [List.mem_cons, List.not_mem_nil, or_false] at hc
  rcases hc with rfl
  · exact ⟨T.o_Part.cls, T.na_Part_add⟩
theorem fi_Part_more (T : Tx A K mg) : ∀ c, c ∈ ([9] : List Nat) → Cls (vcx A K w D).K ((vcx A K w D).cl c) ∧ NoAttr (vcx A K w D).K ((vcx A K w D).cl c) "more" := by
  intro c hc
  simp only [List.mem_cons, List.not_mem_nil, or_false] at hc
  rcases hc with rfl
  · exact ⟨T.o_Part.cls, T.na_Part_more⟩
theorem fi_Book_marks (T : Tx A K mg) : ∀ c, c ∈ ([10] : List Nat) → Cls (vcx A K w D).K ((vcx A K w D).cl c) ∧ NoAttr (vcx A K w D).K ((vcx A K w D).cl c) "marks" := by
  intro c hc
  simp only [List.mem_cons, List.not_mem_nil, or_false] at hc
  rcases hc with rfl
  · exact ⟨T.o_Book.cls, T.na_Book_marks⟩
theorem fi_Book_counted (T : Tx A K mg) : ∀ c, c ∈ ([10] : List Nat) → Cls (vcx A K w D).K ((vcx A K w D).cl c) ∧ NoAttr (vcx A K w D).K ((vcx A K w D).cl c) "counted" := by
  intro c hc
  simp only [List.mem_cons, List.not_mem_nil, or_false] at hc
  rcases hc with rfl
  · exact ⟨T.o_Book.cls, T.na_Book_counted⟩
theorem fi_Book_keeps (T : Tx A K mg) : ∀ c, c ∈ ([10] : List Nat) → Cls (vcx A K w D).K ((vcx A K w D).cl c) ∧ NoAttr (vcx A K w D).K ((vcx A K w D).cl c) "keeps" := by
  intro c hc
  simp only [List.mem_cons, List.not_mem_nil, or_false] at hc
  rcases hc with rfl
  · exact ⟨T.o_Book.cls, T.na_Book_keeps⟩
theorem fi_Book_rows (T : Tx A K mg) : ∀ c, c ∈ ([10] : List Nat) → Cls (vcx A K w D).K ((vcx A K w D).cl c) ∧ NoAttr (vcx A K w D).K ((vcx A K w D).cl c) "rows" := by
  intro c hc
  simp only [List.mem_cons, List.not_mem_nil, or_false] at hc
  rcases hc with rfl
  · exact ⟨T.o_Book.cls, T.na_Book_rows⟩
theorem fi_Book_blank (T : Tx A K mg) : ∀ c, c ∈ ([10] : List Nat) → Cls (vcx A K w D).K ((vcx A K w D).cl c) ∧ NoAttr (vcx A K w D).K ((vcx A K w D).cl c) "blank" := by
  intro c hc
  simp only [List.mem_cons, List.not_mem_nil, or_false] at hc
  rcases hc with rfl
  · exact ⟨T.o_Book.cls, T.na_Book_blank⟩
theorem fi_Book_worth (T : Tx A K mg) : ∀ c, c ∈ ([10] : List Nat) → Cls (vcx A K w D).K ((vcx A K w D).cl c) ∧ NoAttr (vcx A K w D).K ((vcx A K w D).cl c) "worth" := by
  intro c hc
  simp only [List.mem_cons, List.not_mem_nil, or_false] at hc
  rcases hc with rfl
  · exact ⟨T.o_Book.cls, T.na_Book_worth⟩
theorem fi_Book_steps (T : Tx A K mg) : ∀ c, c ∈ ([10] : List Nat) → Cls (vcx A K w D).K ((vcx A K w D).cl c) ∧ NoAttr (vcx A K w D).K ((vcx A K w D).cl c) "steps" := by
  intro c hc
  simp only [List.mem_cons, List.not_mem_nil, or_false] at hc
  rcases hc with rfl
  · exact ⟨T.o_Book.cls, T.na_Book_steps⟩
theorem fi_Book_joins (T : Tx A K mg) : ∀ c, c ∈ ([10] : List Nat) → Cls (vcx A K w D).K ((vcx A K w D).cl c) ∧ NoAttr (vcx A K w D).K ((vcx A K w D).cl c) "joins" := by
  intro c hc
  simp only [List.mem_cons, List.not_mem_nil, or_false] at hc
  rcases hc with rfl
  · exact ⟨T.o_Book.cls, T.na_Book_joins⟩
theorem fi_Book_parts (T : Tx A K mg) : ∀ c, c ∈ ([10] : List Nat) → Cls (vcx A K w D).K ((vcx A K w D).cl c) ∧ NoAttr (vcx A K w D).K ((vcx A K w D).cl c) "parts" := by
  intro c hc
  simp only [List.mem_cons, List.not_mem_nil, or_false] at hc
  rcases hc with rfl
  · exact ⟨T.o_Book.cls, T.na_Book_parts⟩
theorem nf_Step (T : Tx A K mg) : NotF (vcx A K w D) A.Step (isInsC 7) := by
  intro R t v H j r e
  cases t with
  | ins c ns ts =>
    have q : c = 7 := of_decide_eq_true e
    subst q
    cases r with
    | ins h1 h2 h3 => exact ⟨_, T.o_Step.typ ⟨T.ogt, T.otk⟩ (h1 H (Gr.refl j)), notFirst_me⟩
  | _ => exact nomatch e
theorem nf_Join (T : Tx A K mg) : NotF (vcx A K w D) A.Join (isInsC 8) := by
  intro R t v H j r e
  cases t with
  | ins c ns ts =>
    have q : c = 8 := of_decide_eq_true e
    subst q
    cases r with
    | ins h1 h2 h3 => exact ⟨_, T.o_Join.typ ⟨T.ogt, T.otk⟩ (h1 H (Gr.refl j)), notFirst_me⟩
  | _ => exact nomatch e
theorem nf_Part (T : Tx A K mg) : NotF (vcx A K w D) A.Part (isInsC 9) := by
  intro R t v H j r e
  cases t with
  | ins c ns ts =>
    have q : c = 9 := of_decide_eq_true e
    subst q
    cases r with
    | ins h1 h2 h3 => exact ⟨_, T.o_Part.typ ⟨T.ogt, T.otk⟩ (h1 H (Gr.refl j)), notFirst_me⟩
  | _ => exact nomatch e
theorem nf_Book (T : Tx A K mg) : NotF (vcx A K w D) A.Book (isInsC 10) := by
  intro R t v H j r e
  cases t with
  | ins c ns ts =>
    have q : c = 10 := of_decide_eq_true e
    subst q
    cases r with
    | ins h1 h2 h3 => exact ⟨_, T.o_Book.typ ⟨T.ogt, T.otk⟩ (h1 H (Gr.refl j)), notFirst_me⟩
  | _ => exact nomatch e
def isT_Row : T → Option Bool
  | .ins c _ _ => if c = 7 then some true else if c = 8 then some true else if c = 9 then some true else if c = 10 then some false else  none
  | .non => some false | .bl _ => some false | .int _ => some false | .str _ => some false | .lst _ => some false | .tup _ => some false
  | _ => none
theorem isi_Row (T : Tx A K mg) : ∀ (R : Res) (t : Vi.T) (v : V) (H : Hp) (b : Bool), R.J H → Rep (vcx A K w D) R t v H → isT_Row t = some b → ∃ ty, TyX (vcx A K w D).K H v ty ∧ PySem.W.kitOne (vcx A K w D).K ty (.ref ((vcx A K w D).cl 6)) = some b := by
  intro R t v H b j r e
  cases t with
    | ins c ns ts =>
      simp only [isT_Row] at e
      by_cases q7 : c = 7
      · rw [if_pos q7] at e; cases e; subst q7
        cases r with
        | ins h1 h2 h3 => exact ⟨_, T.o_Step.typ ⟨T.ogt, T.otk⟩ (h1 H (Gr.refl j)), T.o_Row.kit T.su_Step_Row⟩
      rw [if_neg q7] at e
      by_cases q8 : c = 8
      · rw [if_pos q8] at e; cases e; subst q8
        cases r with
        | ins h1 h2 h3 => exact ⟨_, T.o_Join.typ ⟨T.ogt, T.otk⟩ (h1 H (Gr.refl j)), T.o_Row.kit T.su_Join_Row⟩
      rw [if_neg q8] at e
      by_cases q9 : c = 9
      · rw [if_pos q9] at e; cases e; subst q9
        cases r with
        | ins h1 h2 h3 => exact ⟨_, T.o_Part.typ ⟨T.ogt, T.otk⟩ (h1 H (Gr.refl j)), T.o_Row.kit T.su_Part_Row⟩
      rw [if_neg q9] at e
      by_cases q10 : c = 10
      · rw [if_pos q10] at e; cases e; subst q10
        cases r with
        | ins h1 h2 h3 => exact ⟨_, T.o_Book.typ ⟨T.ogt, T.otk⟩ (h1 H (Gr.refl j)), T.o_Row.kit T.su_Book_Row⟩
      rw [if_neg q10] at e
      cases e
    | non => cases e; exact ⟨_, ty_kind (t := .non) j (by simp only [kindOf]; decide) r, T.o_Row.kit T.sb_NoneType_Row⟩
    | bl b => cases e; exact ⟨_, ty_kind (t := .bl b) j (by simp only [kindOf]; decide) r, T.o_Row.kit T.sb_bool_Row⟩
    | int i => cases e; exact ⟨_, ty_kind (t := .int i) j (by simp only [kindOf]; decide) r, T.o_Row.kit T.sb_int_Row⟩
    | str z => cases e; exact ⟨_, ty_kind (t := .str z) j (by simp only [kindOf]; decide) r, T.o_Row.kit T.sb_str_Row⟩
    | lst ts => cases e; exact ⟨_, ty_kind (t := .lst ts) j (by simp only [kindOf]; decide) r, T.o_Row.kit T.sb_list_Row⟩
    | tup ts => cases e; exact ⟨_, ty_kind (t := .tup ts) j (by simp only [kindOf]; decide) r, T.o_Row.kit T.sb_tuple_Row⟩
    | _ => exact nomatch e
def isT_Book : T → Option Bool
  | .ins c _ _ => if c = 7 then some false else if c = 8 then some false else if c = 9 then some false else if c = 10 then some true else  none
  | .non => some false | .bl _ => some false | .int _ => some false | .str _ => some false | .lst _ => some false | .tup _ => some false
  | _ => none
theorem isi_Book (T : Tx A K mg) : ∀ (R : Res) (t : Vi.T) (v : V) (H : Hp) (b : Bool), R.J H → Rep (vcx A K w D) R t v H → isT_Book t = some b → ∃ ty, TyX (vcx A K w D).K H v ty ∧ PySem.W.kitOne (vcx A K w D).K ty (.ref ((vcx A K w D).cl 10)) = some b := by
  intro R t v H b j r e
  cases t with
    | ins c ns ts =>
      simp only [isT_Book] at e
      by_cases q7 : c = 7
      · rw [if_pos q7] at e; cases e; subst q7
        cases r with
        | ins h1 h2 h3 => exact ⟨_, T.o_Step.typ ⟨T.ogt, T.otk⟩ (h1 H (Gr.refl j)), T.o_Book.kit T.su_Step_Book⟩
      rw [if_neg q7] at e
      by_cases q8 : c = 8
      · rw [if_pos q8] at e; cases e; subst q8
        cases r with
        | ins h1 h2 h3 => exact ⟨_, T.o_Join.typ ⟨T.ogt, T.otk⟩ (h1 H (Gr.refl j)), T.o_Book.kit T.su_Join_Book⟩
      rw [if_neg q8] at e
      by_cases q9 : c = 9
      · rw [if_pos q9] at e; cases e; subst q9
        cases r with
        | ins h1 h2 h3 => exact ⟨_, T.o_Part.typ ⟨T.ogt, T.otk⟩ (h1 H (Gr.refl j)), T.o_Book.kit T.su_Part_Book⟩
      rw [if_neg q9] at e
      by_cases q10 : c = 10
      · rw [if_pos q10] at e; cases e; subst q10
        cases r with
        | ins h1 h2 h3 => exact ⟨_, T.o_Book.typ ⟨T.ogt, T.otk⟩ (h1 H (Gr.refl j)), T.o_Book.kit T.o_Book.me⟩
      rw [if_neg q10] at e
      cases e
    | non => cases e; exact ⟨_, ty_kind (t := .non) j (by simp only [kindOf]; decide) r, T.o_Book.kit T.sb_NoneType_Book⟩
    | bl b => cases e; exact ⟨_, ty_kind (t := .bl b) j (by simp only [kindOf]; decide) r, T.o_Book.kit T.sb_bool_Book⟩
    | int i => cases e; exact ⟨_, ty_kind (t := .int i) j (by simp only [kindOf]; decide) r, T.o_Book.kit T.sb_int_Book⟩
    | str z => cases e; exact ⟨_, ty_kind (t := .str z) j (by simp only [kindOf]; decide) r, T.o_Book.kit T.sb_str_Book⟩
    | lst ts => cases e; exact ⟨_, ty_kind (t := .lst ts) j (by simp only [kindOf]; decide) r, T.o_Book.kit T.sb_list_Book⟩
    | tup ts => cases e; exact ⟨_, ty_kind (t := .tup ts) j (by simp only [kindOf]; decide) r, T.o_Book.kit T.sb_tuple_Book⟩
    | _ => exact nomatch e
theorem sc_law_number : FnScope ["_law_script", "_law_zturn", "_law_znumber", "_law_zcell"] ["_law_script", "_law_zturn"] (defScope s_law_number) := ⟨rfl, rfl, rfl, by decide +kernel, rfl, by decide +kernel, by decide +kernel⟩
theorem sc_is_integer : FnScope ["value"] ["value"] (defScope s_is_integer) := ⟨rfl, rfl, rfl, by decide +kernel, rfl, by decide +kernel, by decide +kernel⟩
def m_is_integer : List T → Prog T := runF 1
  (vRet (vAndV (vCB isiB (vCons (vVar 0) (vCons (vC (.ty "int")) vNil))) (vNotV (vCB isiB (vCons (vVar 0) (vCons (vC (.ty "bool")) vNil))))))
theorem ok_is_integer (T : Tx A K mg) (TW : TxW A K w)  {f : Addr} {fd : FuncData} (F : Fun K "is_integer" "is_integer" s_is_integer f fd) : FnOk P w K mg base CX0 1 f fd ["value"] (spM (vcx A K w D) 1 m_is_integer) := by
  refine F.ok sc_is_integer (fun vs H Q E h => ?_) (fun cdv A' outer s H vs Q E hr h => ?_)
  · obtain ⟨_, _, hl, _⟩ := h; exact hl
  · exact ⟨_, (pss_one (ps_ret (pe_and (pe_callB (show CallR _ _ (rIsi K) from call_isi) (by rfl) T.z_isinstance (by decide +kernel) (pa_cons (pv 0) (pa_cons (pe_bltn (v := .ty "int") (by rfl) T.z_int (by decide +kernel) rfl) pa_nil))) (pe_one (pe_not (pe_callB (show CallR _ _ (rIsi K) from call_isi) (by rfl) T.z_isinstance (by decide +kernel) (pa_cons (pv 0) (pa_cons (pe_bltn (v := .ty "bool") (by rfl) T.z_bool (by decide +kernel) rfl) pa_nil)))))))),
      ss_run (E := E0) (N := ["value"]) (mb := (vRet (vAndV (vCB isiB (vCons (vVar 0) (vCons (vC (.ty "int")) vNil))) (vNotV (vCB isiB (vCons (vVar 0) (vCons (vC (.ty "bool")) vNil))))))) (ss_ret (se_andV (se_cb rc_isiB (sa_cons' (se_var 0) (sa_cons' se_ty sa_nil'))) (se_notV (se_cb rc_isiB (sa_cons' (se_var 0) (sa_cons' se_ty sa_nil')))))) h (by decide)⟩
theorem sc_is_name : FnScope ["value", "letter"] ["value"] (defScope s_is_name) := ⟨rfl, rfl, rfl, by decide +kernel, rfl, by decide +kernel, by decide +kernel⟩
def m_is_name : List T → Prog T := runF 2
  (vSeq (vIfS (vOrT (vNotT (vT (vCB isiB (vCons (vVar 0) (vCons (vC (.ty "str")) vNil))))) (vT (v2 (inF false) (vVar 0) (vC k_KEYWORDS)))) (vRet (vC (.bl false))) vNext)
      (vRet (vAndV (vChain leT leT (vC (.int 1)) (vCB lenT' (vCons (vVar 0) vNil)) (vC (.int 4))) (vCB (allT fun bs => bs.all id) (vCons (vLc [1] (vSeqI (vVar 0)) (gNE 1) (fun _ => .ret true) (vChain leT leT (vC (.str [97])) (vVar 1) (vC (.str [122])))) vNil)))))
theorem ok_is_name (T : Tx A K mg) (TW : TxW A K w)  {f : Addr} {fd : FuncData} (F : Fun K "is_name" "is_name" s_is_name f fd) : FnOk P w K mg base CX0 1 f fd ["value"] (spM (vcx A K w D) 1 m_is_name) := by
  refine F.ok sc_is_name (fun vs H Q E h => ?_) (fun cdv A' outer s H vs Q E hr h => ?_)
  · obtain ⟨_, _, hl, _⟩ := h; exact hl
  · exact ⟨_, (pss_cons (ps_if (PW.pt (pw_or (pt_not (pt_val (pe_callB (show CallR _ _ (rIsi K) from call_isi) (by rfl) T.z_isinstance (by decide +kernel) (pa_cons (pv 0) (pa_cons (pe_bltn (v := .ty "str") (by rfl) T.z_str (by decide +kernel) rfl) pa_nil))))) (pw_or1 (pt_cmpR (show OpR _ _ (rIn K false) from op_in_seq) (pv 0) (pe_glob (v := .ref A.KEYWORDS) rfl T.g_KEYWORDS rfl) (by rfl))))) (pss_one (ps_ret pe_bl)) pss_nil)
      (pss_one (ps_ret (pe_and (pe_chain op_leAny op_leAny pe_int (pe_callB (show CallR _ _ (rLenAny K) from call_lenAny) (by rfl) T.z_len (by decide +kernel) (pa_cons (pv 0) pa_nil)) pe_int) (pe_one (pe_callB (show CallR _ _ (rAll K) from cr_all rfl) (by rfl) T.z_all (by decide +kernel) (pa_cons (pe_lc (own := [("letter", 1)]) (g := (gName 1)) rfl sc_is_name.nd (show PI _ _ _ (iAny K _) from pi_any (pv 0)) (blkOk_by (own := [("letter", 1)]) (N := ["value", "letter"]) (sc := defScope s_is_name) (by decide +kernel)) (fun _ _ _ _ _ => pg_name (i := 1) sc_is_name.nd rfl (Or.inl rfl)) (fun _ _ _ _ _ => pts_nil) (fun _ _ _ _ _ => (pe_chain op_leAny op_leAny pe_str (pv 1) pe_str))) pa_nil))))))),
      ss_run (E := E0) (N := ["value", "letter"]) (mb := (vSeq (vIfS (vOrT (vNotT (vT (vCB isiB (vCons (vVar 0) (vCons (vC (.ty "str")) vNil))))) (vT (v2 (inF false) (vVar 0) (vC k_KEYWORDS)))) (vRet (vC (.bl false))) vNext)
      (vRet (vAndV (vChain leT leT (vC (.int 1)) (vCB lenT' (vCons (vVar 0) vNil)) (vC (.int 4))) (vCB (allT fun bs => bs.all id) (vCons (vLc [1] (vSeqI (vVar 0)) (gNE 1) (fun _ => .ret true) (vChain leT leT (vC (.str [97])) (vVar 1) (vC (.str [122])))) vNil)))))) (ss_seq (ss_if (st_or (st_not (st_B (se_cb rc_isiB (sa_cons' (se_var 0) (sa_cons' se_ty sa_nil'))))) (st_test (se_op (ro_inF false) (se_var 0) (se_c (rp_KEYWORDS T))))) (ss_ret se_bl) ss_next)
      (ss_ret (se_andV (se_chain ro_le ro_le se_int (se_cb rc_len (sa_cons' (se_var 0) sa_nil')) se_int) (se_cb rc_all (sa_cons' (SF.se (sf_lc (si_any (se_var 0)) (sge_name 1 (by decide)) st_yes (se_chain ro_le ro_le (se_str lt0) (se_var 1) (se_str lt1)))) sa_nil'))))) h (by decide)⟩
theorem sc_is_sequence : FnScope ["value"] ["value"] (defScope s_is_sequence) := ⟨rfl, rfl, rfl, by decide +kernel, rfl, by decide +kernel, by decide +kernel⟩
def m_is_sequence : List T → Prog T := runF 1
  (vRet (vCB isiT2 (vCons (vVar 0) (vCons (vTup (vCons (vC (.ty "list")) (vCons (vC (.ty "tuple")) vNil))) vNil))))
theorem ok_is_sequence (T : Tx A K mg) (TW : TxW A K w)  {f : Addr} {fd : FuncData} (F : Fun K "is_sequence" "is_sequence" s_is_sequence f fd) : FnOk P w K mg base CX0 1 f fd ["value"] (spM (vcx A K w D) 1 m_is_sequence) := by
  refine F.ok sc_is_sequence (fun vs H Q E h => ?_) (fun cdv A' outer s H vs Q E hr h => ?_)
  · obtain ⟨_, _, hl, _⟩ := h; exact hl
  · exact ⟨_, (pss_one (ps_ret (pe_callB (show CallR _ _ (rIsiT K) from call_isiT) (by rfl) T.z_isinstance (by decide +kernel) (pa_cons (pv 0) (pa_cons (pe_tup (pa_cons (pe_bltn (v := .ty "list") (by rfl) T.z_list (by decide +kernel) rfl) (pa_cons (pe_bltn (v := .ty "tuple") (by rfl) T.z_tuple (by decide +kernel) rfl) pa_nil))) pa_nil))))),
      ss_run (E := E0) (N := ["value"]) (mb := (vRet (vCB isiT2 (vCons (vVar 0) (vCons (vTup (vCons (vC (.ty "list")) (vCons (vC (.ty "tuple")) vNil))) vNil))))) (ss_ret (se_cb rc_isiT2 (sa_cons' (se_var 0) (sa_cons' (se_tup (sa_cons' se_ty (sa_cons' se_ty sa_nil'))) sa_nil')))) h (by decide)⟩
theorem sc_is_place : FnScope ["at", "things"] ["at", "things"] (defScope s_is_place) := ⟨rfl, rfl, rfl, by decide +kernel, rfl, by decide +kernel, by decide +kernel⟩
def m_is_place : List T → Prog T := runF 2
  (vRet (vAndV (vCall 1 m_is_integer (vCons (vVar 0) vNil)) (vChain leT ltT (vC (.int 0)) (vVar 0) (vCB lenT' (vCons (vVar 1) vNil)))))
theorem ok_is_place (T : Tx A K mg) (TW : TxW A K w) (c_is_integer : CalX P w K mg base CX0 1 "is_integer" (spM (vcx A K w D) 1 m_is_integer)) {f : Addr} {fd : FuncData} (F : Fun K "is_place" "is_place" s_is_place f fd) : FnOk P w K mg base CX0 2 f fd ["at", "things"] (spM (vcx A K w D) 2 m_is_place) := by
  refine F.ok sc_is_place (fun vs H Q E h => ?_) (fun cdv A' outer s H vs Q E hr h => ?_)
  · obtain ⟨_, _, hl, _⟩ := h; exact hl
  · exact ⟨_, (pss_one (ps_ret (pe_and (pe_cal c_is_integer hr (by decide) pass0 (pa_cons (pv 0) pa_nil)) (pe_one (pe_chain op_leAny op_ltAny pe_int (pv 0) (pe_callB (show CallR _ _ (rLenAny K) from call_lenAny) (by rfl) T.z_len (by decide +kernel) (pa_cons (pv 1) pa_nil))))))),
      ss_run (E := E0) (N := ["at", "things"]) (mb := (vRet (vAndV (vCall 1 m_is_integer (vCons (vVar 0) vNil)) (vChain leT ltT (vC (.int 0)) (vVar 0) (vCB lenT' (vCons (vVar 1) vNil)))))) (ss_ret (se_andV (se_call (sa_cons' (se_var 0) sa_nil')) (se_chain ro_le ro_lt se_int (se_var 0) (se_cb rc_len (sa_cons' (se_var 1) sa_nil'))))) h (by decide)⟩
theorem sc_all_differ : FnScope ["things"] ["things"] (defScope s_all_differ) := ⟨rfl, rfl, rfl, by decide +kernel, rfl, by decide +kernel, by decide +kernel⟩
def m_all_differ : List T → Prog T := runF 1
  (vRet (v1 differT (vVar 0)))
theorem ok_all_differ (T : Tx A K mg) (TW : TxW A K w)  {f : Addr} {fd : FuncData} (F : Fun K "all_differ" "all_differ" s_all_differ f fd) : FnOk P w K mg base CX0 1 f fd ["things"] (spM (vcx A K w D) 1 m_all_differ) := by
  refine F.ok sc_all_differ (fun vs H Q E h => ?_) (fun cdv A' outer s H vs Q E hr h => ?_)
  · obtain ⟨_, _, hl, _⟩ := h; exact hl
  · exact ⟨_, (pss_one (ps_ret (pe_cmpR (show OpR _ _ (rEqAny K) from op_eqAny hr.units) (pe_callB (show CallR _ _ (rLenK P w) from call_lenK) (by rfl) T.z_len (by decide +kernel) (pa_cons (pe_callTy (show CallR _ _ (rSetS K P w) from cr_setS rfl) (by rfl) T.z_set (by decide +kernel) (pa_cons (pv 0) pa_nil)) pa_nil)) (pe_callB (show CallR _ _ (rLenAny K) from call_lenAny) (by rfl) T.z_len (by decide +kernel) (pa_cons (pv 0) pa_nil)) (nomark _)))),
      ss_run (E := E0) (N := ["things"]) (mb := (vRet (v1 differT (vVar 0)))) (ss_ret (se_differ 0)) h (by decide)⟩
theorem sc_split_words : FnScope ["text", "words"] ["text"] (defScope s_split_words) := ⟨rfl, rfl, rfl, by decide +kernel, rfl, by decide +kernel, by decide +kernel⟩
def m_split_words : List T → Prog T := runF 2
  (vSeq (vSetS 1 (vSM splitT (vVar 0) (vCons (vC (.str [32])) vNil)))
      (vSeq (vIfS (vT (v2 eqT (v2 ixT (vVar 1) (vC (.int 0))) (vC (.str [108, 97, 116, 101])))) (vRet (vLst (vCons (vSM joinT (vC (.str [32])) (vCons (vSl (vVar 1) vNoPart (vPart (vC (.int 2)))) vNil)) (vStar (vSl (vVar 1) (vPart (vC (.int 2))) vNoPart) vNil)))) vNext)
      (vRet (vVar 1))))
theorem ok_split_words (T : Tx A K mg) (TW : TxW A K w)  {f : Addr} {fd : FuncData} (F : Fun K "split_words" "split_words" s_split_words f fd) : FnOk P w K mg base CX0 1 f fd ["text"] (spM (vcx A K w D) 1 m_split_words) := by
  refine F.ok sc_split_words (fun vs H Q E h => ?_) (fun cdv A' outer s H vs Q E hr h => ?_)
  · obtain ⟨_, _, hl, _⟩ := h; exact hl
  · exact ⟨_, (pss_cons (ps_set (i := 1) sc_split_words.nd rfl (by first | exact .inl rfl | exact .inr rfl) (pe_bm PySem.F.plainAttrs_str PySem.F.slot_str_split PySem.F.type_str_split mt_split (pv 0) (pa_cons pe_str pa_nil)))
      (pss_cons (ps_if (pt_cmpR (show OpR _ _ (rEqAny K) from op_eqAny hr.units) (pe_ix (show IxR _ (rIx K) from ix_seq) (pv 1) pe_int (fun _ _ => rfl)) pe_str (nomark _)) (pss_one (ps_ret (pe_lst (pa_cons (pe_bm PySem.F.plainAttrs_str PySem.F.slot_str_join PySem.F.type_str_join (show MtR _ _ (rJoin K) from mt_join) pe_str (pa_cons (pe_slice (show SlR _ (rSlAny K) from sl_any) (pv 1) po_none (po_some pe_int)) pa_nil)) (StX.pa_star (pe_slice (show SlR _ (rSlAny K) from sl_any) (pv 1) (po_some pe_int) po_none) pa_nil))))) pss_nil)
      (pss_one (ps_ret (pv 1))))),
      ss_run (E := E0) (N := ["text", "words"]) (mb := (vSeq (vSetS 1 (vSM splitT (vVar 0) (vCons (vC (.str [32])) vNil)))
      (vSeq (vIfS (vT (v2 eqT (v2 ixT (vVar 1) (vC (.int 0))) (vC (.str [108, 97, 116, 101])))) (vRet (vLst (vCons (vSM joinT (vC (.str [32])) (vCons (vSl (vVar 1) vNoPart (vPart (vC (.int 2)))) vNil)) (vStar (vSl (vVar 1) (vPart (vC (.int 2))) vNoPart) vNil)))) vNext)
      (vRet (vVar 1))))) (ss_seq (ss_setS 1 (se_sm rm_split (se_var 0) (sa_cons' (se_str lt2) sa_nil')))
      (ss_seq (ss_if (st_test (se_op ro_eq (se_op ro_ix (se_var 1) se_int) (se_str lt3))) (ss_ret (se_lst (sa_cons' (se_sm rm_join (se_str lt2) (sa_cons' (se_sl (se_var 1) so_none (so_part se_int)) sa_nil')) (sa_star (se_sl (se_var 1) (so_part se_int) so_none) sa_nil')))) ss_next)
      (ss_ret (se_var 1)))) h (by decide)⟩
theorem sc_is_mark_or : FnScope ["value", "words"] ["value", "words"] (defScope s_is_mark_or) := ⟨rfl, rfl, rfl, by decide +kernel, rfl, by decide +kernel, by decide +kernel⟩
def m_is_mark_or : List T → Prog T := runF 2
  (vRet (vOrV (vCall 1 m_is_name (vCons (vVar 0) vNil)) (v2 (inF false) (vVar 0) (vVar 1))))
theorem ok_is_mark_or (T : Tx A K mg) (TW : TxW A K w) (c_is_name : CalX P w K mg base CX0 1 "is_name" (spM (vcx A K w D) 1 m_is_name)) {f : Addr} {fd : FuncData} (F : Fun K "_is_mark_or" "_is_mark_or" s_is_mark_or f fd) : FnOk P w K mg base CX0 2 f fd ["value", "words"] (spM (vcx A K w D) 2 m_is_mark_or) := by
  refine F.ok sc_is_mark_or (fun vs H Q E h => ?_) (fun cdv A' outer s H vs Q E hr h => ?_)
  · obtain ⟨_, _, hl, _⟩ := h; exact hl
  · exact ⟨_, (pss_one (ps_ret (pe_or (pe_cal c_is_name hr (by decide) pass0 (pa_cons (pv 0) pa_nil)) (pe_one (pe_cmpR (show OpR _ _ (rIn K false) from op_in_seq) (pv 0) (pv 1) (by rfl)))))),
      ss_run (E := E0) (N := ["value", "words"]) (mb := (vRet (vOrV (vCall 1 m_is_name (vCons (vVar 0) vNil)) (v2 (inF false) (vVar 0) (vVar 1))))) (ss_ret (se_orV (se_call (sa_cons' (se_var 0) sa_nil')) (se_op (ro_inF false) (se_var 0) (se_var 1)))) h (by decide)⟩
theorem sc_is_added : FnScope ["value"] ["value"] (defScope s_is_added) := ⟨rfl, rfl, rfl, by decide +kernel, rfl, by decide +kernel, by decide +kernel⟩
def m_is_added : List T → Prog T := runF 1
  (vRet (vAndV (vCall 1 m_is_integer (vCons (vVar 0) vNil)) (vChain leT leT (v1 negT (vC (.int 3))) (vVar 0) (vC (.int 3)))))
theorem ok_is_added (T : Tx A K mg) (TW : TxW A K w) (c_is_integer : CalX P w K mg base CX0 1 "is_integer" (spM (vcx A K w D) 1 m_is_integer)) {f : Addr} {fd : FuncData} (F : Fun K "_is_added" "_is_added" s_is_added f fd) : FnOk P w K mg base CX0 2 f fd ["value"] (spM (vcx A K w D) 1 m_is_added) := by
  refine F.ok sc_is_added (fun vs H Q E h => ?_) (fun cdv A' outer s H vs Q E hr h => ?_)
  · obtain ⟨_, _, hl, _⟩ := h; exact hl
  · exact ⟨_, (pss_one (ps_ret (pe_and (pe_cal c_is_integer hr (by decide) pass0 (pa_cons (pv 0) pa_nil)) (pe_one (pe_chain op_leAny op_leAny (pe_un un_neg pe_int) (pv 0) pe_int))))),
      ss_run (E := E0) (N := ["value"]) (mb := (vRet (vAndV (vCall 1 m_is_integer (vCons (vVar 0) vNil)) (vChain leT leT (v1 negT (vC (.int 3))) (vVar 0) (vC (.int 3)))))) (ss_ret (se_andV (se_call (sa_cons' (se_var 0) sa_nil')) (se_chain ro_le ro_le (se_un ru_neg se_int) (se_var 0) se_int))) h (by decide)⟩
theorem sc_refuse_wrong_rows : FnScope ["judged", "word", "right"] ["judged"] (defScope s_refuse_wrong_rows) := ⟨rfl, rfl, rfl, by decide +kernel, rfl, by decide +kernel, by decide +kernel⟩
def m_refuse_wrong_rows : List T → Prog T := runF 3
  (vFor (vSeqI (vVar 0)) (gT 2 (gsCons (gN 1) (gsCons (gN 2) gsNil))) (vIfS (vNotT (vT (vVar 2))) (fun _ => .fail) vNext))
theorem ok_refuse_wrong_rows (T : Tx A K mg) (TW : TxW A K w)  {f : Addr} {fd : FuncData} (F : Fun K "_refuse_wrong" "_refuse_wrong" s_refuse_wrong_rows f fd) : FnOk P w K mg base CX0 1 f fd ["judged"] (spM (vcx A K w D) 1 m_refuse_wrong_rows) := by
  refine F.ok sc_refuse_wrong_rows (fun vs H Q E h => ?_) (fun cdv A' outer s H vs Q E hr h => ?_)
  · obtain ⟨_, _, hl, _⟩ := h; exact hl
  · exact ⟨_, (pss_one (ps_for PassesOwn.never rfl (show PI _ _ _ (iAny K _) from pi_any (pv 0)) (show PG _ _ (gTup K _ _) from pg_tup (by rfl) (pgs_cons (pg_name (i := 1) sc_refuse_wrong_rows.nd rfl (by first | exact .inl rfl | exact .inr rfl)) (pgs_cons (pg_name (i := 2) sc_refuse_wrong_rows.nd rfl (by first | exact .inl rfl | exact .inr rfl)) pgs_nil))) (pss_one (ps_if (pt_not (pt_val (pv 2))) (pss_one ps_never) pss_nil)))),
      ss_run (E := E0) (N := ["judged", "word", "right"]) (mb := (vFor (vSeqI (vVar 0)) (gT 2 (gsCons (gN 1) (gsCons (gN 2) gsNil))) (vIfS (vNotT (vT (vVar 2))) (fun _ => .fail) vNext))) (ss_for (si_any (se_var 0)) (sg_tup (sgs_cons (sg_name 1) (sgs_cons (sg_name 2) sgs_nil))) (ss_if (st_not (st_B (se_var 2))) ss_never ss_next)) h (by decide)⟩
theorem sc_Row_init : FnScope ["self", "words"] ["self", "words"] (defScope s_Row_init) := ⟨rfl, rfl, rfl, by decide +kernel, rfl, by decide +kernel, by decide +kernel⟩
def m_Row_init : Nat → List (List Nat) → List T → List T → Prog (List (List Nat) × List T) := runI 2
  (vSetFS 0 [7, 8, 9] [119, 111, 114, 100, 115] (vVar 1))
theorem ok_Row_init (T : Tx A K mg) (TW : TxW A K w)  {f : Addr} {fd : FuncData} (F : Fun K "__init__" "Row.__init__" s_Row_init f fd) : FnOk P w K mg base CX0 1 f fd ["self", "words"] (spI (vcx A K w D) 2 [7, 8, 9] m_Row_init) := by
  refine F.ok sc_Row_init (fun vs H Q E h => ?_) (fun cdv A' outer s H vs Q E hr h => ?_)
  · obtain ⟨_, _, _, _, _, _, _, _, _, _, hl, _⟩ := h; exact hl
  · exact ⟨_, (pss_one (ps_fld (pv 0) (pv 1) rfl)),
      ss_runI (E := E0) (N := ["self", "words"]) (mb := (vSetFS 0 [7, 8, 9] [119, 111, 114, 100, 115] (vVar 1))) (ss_setFS 0 lt4 (fi_Row_words T) (se_var 1)) h (by decide)⟩
theorem sc_Step_init : FnScope ["self", "kind", "old", "then", "add"] ["self", "kind", "old", "then", "add"] (defScope s_Step_init) := ⟨rfl, rfl, rfl, by decide +kernel, rfl, by decide +kernel, by decide +kernel⟩
def m_Step_init : Nat → List (List Nat) → List T → List T → Prog (List (List Nat) × List T) := runI 5
  (vSeq (vDrop (vCall 1 m_refuse_wrong_rows (vCons (vTup (vCons (vTup (vCons (vC (.str [107, 105, 110, 100])) (vCons (v2 (inF false) (vVar 1) (vC k_KINDS)) vNil))) (vCons (vTup (vCons (vC (.str [111, 108, 100])) (vCons (vCall 2 m_is_mark_or (vCons (vVar 2) (vCons (vTup (vCons (vC (.str [97, 110, 121])) vNil)) vNil))) vNil))) (vCons (vTup (vCons (vC (.str [116, 104, 101, 110])) (vCons (vCall 2 m_is_mark_or (vCons (vVar 3) (vCons (vTup (vCons (vC (.str [115, 97, 109, 101])) vNil)) vNil))) vNil))) (vCons (vTup (vCons (vC (.str [97, 100, 100])) (vCons (vCall 1 m_is_added (vCons (vVar 4) vNil)) vNil))) vNil))))) vNil)))
      (vSeq (vOffI 0 2 [7, 8, 9] m_Row_init (vCons (vTup (vCons (vVar 1) (vCons (vVar 2) (vCons (vC (.str [116, 111])) (vCons (vVar 3) (vCons (vC (.str [98, 121])) (vCons (vCB strT (vCons (vVar 4) vNil)) vNil))))))) vNil))
      (vSeq (vSetFS 0 [7] [107, 105, 110, 100] (vVar 1))
      (vSeq (vSetFS 0 [7] [111, 108, 100] (vVar 2))
      (vSeq (vSetFS 0 [7] [116, 104, 101, 110] (vVar 3))
      (vSetFS 0 [7] [97, 100, 100] (vVar 4)))))))
theorem ok_Step_init (T : Tx A K mg) (TW : TxW A K w) (c_is_added : CalX P w K mg base CX0 2 "_is_added" (spM (vcx A K w D) 1 m_is_added)) (c_is_mark_or : CalX P w K mg base CX0 2 "_is_mark_or" (spM (vcx A K w D) 2 m_is_mark_or)) (c_refuse_wrong_rows : CalX P w K mg base CX0 1 "refuse_wrong_rows" (spM (vcx A K w D) 1 m_refuse_wrong_rows)) {fd_Row_init : FuncData} (F_Row_init : FnOk P w K mg base CX0 1 A.f_Row_init fd_Row_init ["self", "words"] (spI (vcx A K w D) 2 [7, 8, 9] m_Row_init)) (b_Row_init : Binds K fd_Row_init ["self", "words"] []) {f : Addr} {fd : FuncData} (F : Fun K "__init__" "Step.__init__" s_Step_init f fd) : FnOk P w K mg base CX0 3 f fd ["self", "kind", "old", "then", "add"] (spI (vcx A K w D) 5 [7] m_Step_init) := by
  refine F.ok sc_Step_init (fun vs H Q E h => ?_) (fun cdv A' outer s H vs Q E hr h => ?_)
  · obtain ⟨_, _, _, _, _, _, _, _, _, _, hl, _⟩ := h; exact hl
  · exact ⟨_, (pss_cons (ps_expr (pe_cal c_refuse_wrong_rows hr (by decide) pass0 (pa_cons (pe_tup (pa_cons (pe_tup (pa_cons pe_str (pa_cons (pe_cmpR (show OpR _ _ (rIn K false) from op_in_seq) (pv 1) (pe_glob (v := .ref A.KINDS) rfl T.g_KINDS rfl) (by rfl)) pa_nil))) (pa_cons (pe_tup (pa_cons pe_str (pa_cons (pe_cal c_is_mark_or hr (by decide) pass0 (pa_cons (pv 2) (pa_cons (pe_tup (pa_cons pe_str pa_nil)) pa_nil))) pa_nil))) (pa_cons (pe_tup (pa_cons pe_str (pa_cons (pe_cal c_is_mark_or hr (by decide) pass0 (pa_cons (pv 3) (pa_cons (pe_tup (pa_cons pe_str pa_nil)) pa_nil))) pa_nil))) (pa_cons (pe_tup (pa_cons pe_str (pa_cons (pe_cal c_is_added hr (by decide) pass0 (pa_cons (pv 4) pa_nil)) pa_nil))) pa_nil))))) pa_nil)))
      (pss_cons (ps_expr (pe_off (E := E0) (pe_glob (v := .ref A.Row) rfl T.g_Row rfl) ⟨T.rd_Row, T.ga_Row⟩ ⟨T.off_Row, rfl⟩ F_Row_init (hr.mono (by decide)) T.kp_Row_init b_Row_init pass0 (pa_cons (pv 0) (pa_cons (pe_tup (pa_cons (pv 1) (pa_cons (pv 2) (pa_cons pe_str (pa_cons (pv 3) (pa_cons pe_str (pa_cons (pe_callTy call_str_is (by rfl) T.z_str (by decide +kernel) (pa_cons (pv 4) pa_nil)) pa_nil))))))) pa_nil))))
      (pss_cons (ps_fld (pv 0) (pv 1) rfl)
      (pss_cons (ps_fld (pv 0) (pv 2) rfl)
      (pss_cons (ps_fld (pv 0) (pv 3) rfl)
      (pss_one (ps_fld (pv 0) (pv 4) rfl))))))),
      ss_runI (E := E0) (N := ["self", "kind", "old", "then", "add"]) (mb := (vSeq (vDrop (vCall 1 m_refuse_wrong_rows (vCons (vTup (vCons (vTup (vCons (vC (.str [107, 105, 110, 100])) (vCons (v2 (inF false) (vVar 1) (vC k_KINDS)) vNil))) (vCons (vTup (vCons (vC (.str [111, 108, 100])) (vCons (vCall 2 m_is_mark_or (vCons (vVar 2) (vCons (vTup (vCons (vC (.str [97, 110, 121])) vNil)) vNil))) vNil))) (vCons (vTup (vCons (vC (.str [116, 104, 101, 110])) (vCons (vCall 2 m_is_mark_or (vCons (vVar 3) (vCons (vTup (vCons (vC (.str [115, 97, 109, 101])) vNil)) vNil))) vNil))) (vCons (vTup (vCons (vC (.str [97, 100, 100])) (vCons (vCall 1 m_is_added (vCons (vVar 4) vNil)) vNil))) vNil))))) vNil)))
      (vSeq (vOffI 0 2 [7, 8, 9] m_Row_init (vCons (vTup (vCons (vVar 1) (vCons (vVar 2) (vCons (vC (.str [116, 111])) (vCons (vVar 3) (vCons (vC (.str [98, 121])) (vCons (vCB strT (vCons (vVar 4) vNil)) vNil))))))) vNil))
      (vSeq (vSetFS 0 [7] [107, 105, 110, 100] (vVar 1))
      (vSeq (vSetFS 0 [7] [111, 108, 100] (vVar 2))
      (vSeq (vSetFS 0 [7] [116, 104, 101, 110] (vVar 3))
      (vSetFS 0 [7] [97, 100, 100] (vVar 4)))))))) (ss_seq (ss_drop (se_call (sa_cons' (se_tup (sa_cons' (se_tup (sa_cons' (se_str lt10) (sa_cons' (se_op (ro_inF false) (se_var 1) (se_c (rp_KINDS T))) sa_nil'))) (sa_cons' (se_tup (sa_cons' (se_str lt9) (sa_cons' (se_call (sa_cons' (se_var 2) (sa_cons' (se_tup (sa_cons' (se_str lt8) sa_nil')) sa_nil'))) sa_nil'))) (sa_cons' (se_tup (sa_cons' (se_str lt7) (sa_cons' (se_call (sa_cons' (se_var 3) (sa_cons' (se_tup (sa_cons' (se_str lt6) sa_nil')) sa_nil'))) sa_nil'))) (sa_cons' (se_tup (sa_cons' (se_str lt5) (sa_cons' (se_call (sa_cons' (se_var 4) sa_nil')) sa_nil'))) sa_nil'))))) sa_nil')))
      (ss_seq (ss_offI 0 (sa_cons' (se_tup (sa_cons' (se_var 1) (sa_cons' (se_var 2) (sa_cons' (se_str lt12) (sa_cons' (se_var 3) (sa_cons' (se_str lt11) (sa_cons' (se_cb rc_str (sa_cons' (se_var 4) sa_nil')) sa_nil'))))))) sa_nil'))
      (ss_seq (ss_setFS 0 lt10 (fi_Step_kind T) (se_var 1))
      (ss_seq (ss_setFS 0 lt9 (fi_Step_old T) (se_var 2))
      (ss_seq (ss_setFS 0 lt7 (fi_Step_then T) (se_var 3))
      (ss_setFS 0 lt5 (fi_Step_add T) (se_var 4))))))) h (by decide)⟩
theorem sc_Join_init : FnScope ["self", "here", "there", "then", "add"] ["self", "here", "there", "then", "add"] (defScope s_Join_init) := ⟨rfl, rfl, rfl, by decide +kernel, rfl, by decide +kernel, by decide +kernel⟩
def m_Join_init : Nat → List (List Nat) → List T → List T → Prog (List (List Nat) × List T) := runI 5
  (vSeq (vDrop (vCall 1 m_refuse_wrong_rows (vCons (vTup (vCons (vTup (vCons (vC (.str [104, 101, 114, 101])) (vCons (vCall 2 m_is_mark_or (vCons (vVar 1) (vCons (vTup (vCons (vC (.str [97, 110, 121])) vNil)) vNil))) vNil))) (vCons (vTup (vCons (vC (.str [116, 104, 101, 114, 101])) (vCons (vCall 2 m_is_mark_or (vCons (vVar 2) (vCons (vTup (vCons (vC (.str [97, 110, 121])) vNil)) vNil))) vNil))) (vCons (vTup (vCons (vC (.str [116, 104, 101, 110])) (vCons (vCall 2 m_is_mark_or (vCons (vVar 3) (vCons (vTup (vCons (vC (.str [111, 110, 101])) (vCons (vC (.str [111, 116, 104, 101, 114])) vNil))) vNil))) vNil))) (vCons (vTup (vCons (vC (.str [97, 100, 100])) (vCons (vCall 1 m_is_added (vCons (vVar 4) vNil)) vNil))) vNil))))) vNil)))
      (vSeq (vOffI 0 2 [7, 8, 9] m_Row_init (vCons (vTup (vCons (vC (.str [106, 111, 105, 110])) (vCons (vVar 1) (vCons (vVar 2) (vCons (vC (.str [116, 111])) (vCons (vVar 3) (vCons (vC (.str [98, 121])) (vCons (vCB strT (vCons (vVar 4) vNil)) vNil)))))))) vNil))
      (vSeq (vSetFS 0 [8] [104, 101, 114, 101] (vVar 1))
      (vSeq (vSetFS 0 [8] [116, 104, 101, 114, 101] (vVar 2))
      (vSeq (vSetFS 0 [8] [116, 104, 101, 110] (vVar 3))
      (vSetFS 0 [8] [97, 100, 100] (vVar 4)))))))
theorem ok_Join_init (T : Tx A K mg) (TW : TxW A K w) (c_is_added : CalX P w K mg base CX0 2 "_is_added" (spM (vcx A K w D) 1 m_is_added)) (c_is_mark_or : CalX P w K mg base CX0 2 "_is_mark_or" (spM (vcx A K w D) 2 m_is_mark_or)) (c_refuse_wrong_rows : CalX P w K mg base CX0 1 "refuse_wrong_rows" (spM (vcx A K w D) 1 m_refuse_wrong_rows)) {fd_Row_init : FuncData} (F_Row_init : FnOk P w K mg base CX0 1 A.f_Row_init fd_Row_init ["self", "words"] (spI (vcx A K w D) 2 [7, 8, 9] m_Row_init)) (b_Row_init : Binds K fd_Row_init ["self", "words"] []) {f : Addr} {fd : FuncData} (F : Fun K "__init__" "Join.__init__" s_Join_init f fd) : FnOk P w K mg base CX0 3 f fd ["self", "here", "there", "then", "add"] (spI (vcx A K w D) 5 [8] m_Join_init) := by
  refine F.ok sc_Join_init (fun vs H Q E h => ?_) (fun cdv A' outer s H vs Q E hr h => ?_)
  · obtain ⟨_, _, _, _, _, _, _, _, _, _, hl, _⟩ := h; exact hl
  · exact ⟨_, (pss_cons (ps_expr (pe_cal c_refuse_wrong_rows hr (by decide) pass0 (pa_cons (pe_tup (pa_cons (pe_tup (pa_cons pe_str (pa_cons (pe_cal c_is_mark_or hr (by decide) pass0 (pa_cons (pv 1) (pa_cons (pe_tup (pa_cons pe_str pa_nil)) pa_nil))) pa_nil))) (pa_cons (pe_tup (pa_cons pe_str (pa_cons (pe_cal c_is_mark_or hr (by decide) pass0 (pa_cons (pv 2) (pa_cons (pe_tup (pa_cons pe_str pa_nil)) pa_nil))) pa_nil))) (pa_cons (pe_tup (pa_cons pe_str (pa_cons (pe_cal c_is_mark_or hr (by decide) pass0 (pa_cons (pv 3) (pa_cons (pe_tup (pa_cons pe_str (pa_cons pe_str pa_nil))) pa_nil))) pa_nil))) (pa_cons (pe_tup (pa_cons pe_str (pa_cons (pe_cal c_is_added hr (by decide) pass0 (pa_cons (pv 4) pa_nil)) pa_nil))) pa_nil))))) pa_nil)))
      (pss_cons (ps_expr (pe_off (E := E0) (pe_glob (v := .ref A.Row) rfl T.g_Row rfl) ⟨T.rd_Row, T.ga_Row⟩ ⟨T.off_Row, rfl⟩ F_Row_init (hr.mono (by decide)) T.kp_Row_init b_Row_init pass0 (pa_cons (pv 0) (pa_cons (pe_tup (pa_cons pe_str (pa_cons (pv 1) (pa_cons (pv 2) (pa_cons pe_str (pa_cons (pv 3) (pa_cons pe_str (pa_cons (pe_callTy call_str_is (by rfl) T.z_str (by decide +kernel) (pa_cons (pv 4) pa_nil)) pa_nil)))))))) pa_nil))))
      (pss_cons (ps_fld (pv 0) (pv 1) rfl)
      (pss_cons (ps_fld (pv 0) (pv 2) rfl)
      (pss_cons (ps_fld (pv 0) (pv 3) rfl)
      (pss_one (ps_fld (pv 0) (pv 4) rfl))))))),
      ss_runI (E := E0) (N := ["self", "here", "there", "then", "add"]) (mb := (vSeq (vDrop (vCall 1 m_refuse_wrong_rows (vCons (vTup (vCons (vTup (vCons (vC (.str [104, 101, 114, 101])) (vCons (vCall 2 m_is_mark_or (vCons (vVar 1) (vCons (vTup (vCons (vC (.str [97, 110, 121])) vNil)) vNil))) vNil))) (vCons (vTup (vCons (vC (.str [116, 104, 101, 114, 101])) (vCons (vCall 2 m_is_mark_or (vCons (vVar 2) (vCons (vTup (vCons (vC (.str [97, 110, 121])) vNil)) vNil))) vNil))) (vCons (vTup (vCons (vC (.str [116, 104, 101, 110])) (vCons (vCall 2 m_is_mark_or (vCons (vVar 3) (vCons (vTup (vCons (vC (.str [111, 110, 101])) (vCons (vC (.str [111, 116, 104, 101, 114])) vNil))) vNil))) vNil))) (vCons (vTup (vCons (vC (.str [97, 100, 100])) (vCons (vCall 1 m_is_added (vCons (vVar 4) vNil)) vNil))) vNil))))) vNil)))
      (vSeq (vOffI 0 2 [7, 8, 9] m_Row_init (vCons (vTup (vCons (vC (.str [106, 111, 105, 110])) (vCons (vVar 1) (vCons (vVar 2) (vCons (vC (.str [116, 111])) (vCons (vVar 3) (vCons (vC (.str [98, 121])) (vCons (vCB strT (vCons (vVar 4) vNil)) vNil)))))))) vNil))
      (vSeq (vSetFS 0 [8] [104, 101, 114, 101] (vVar 1))
      (vSeq (vSetFS 0 [8] [116, 104, 101, 114, 101] (vVar 2))
      (vSeq (vSetFS 0 [8] [116, 104, 101, 110] (vVar 3))
      (vSetFS 0 [8] [97, 100, 100] (vVar 4)))))))) (ss_seq (ss_drop (se_call (sa_cons' (se_tup (sa_cons' (se_tup (sa_cons' (se_str lt16) (sa_cons' (se_call (sa_cons' (se_var 1) (sa_cons' (se_tup (sa_cons' (se_str lt8) sa_nil')) sa_nil'))) sa_nil'))) (sa_cons' (se_tup (sa_cons' (se_str lt15) (sa_cons' (se_call (sa_cons' (se_var 2) (sa_cons' (se_tup (sa_cons' (se_str lt8) sa_nil')) sa_nil'))) sa_nil'))) (sa_cons' (se_tup (sa_cons' (se_str lt7) (sa_cons' (se_call (sa_cons' (se_var 3) (sa_cons' (se_tup (sa_cons' (se_str lt14) (sa_cons' (se_str lt13) sa_nil'))) sa_nil'))) sa_nil'))) (sa_cons' (se_tup (sa_cons' (se_str lt5) (sa_cons' (se_call (sa_cons' (se_var 4) sa_nil')) sa_nil'))) sa_nil'))))) sa_nil')))
      (ss_seq (ss_offI 0 (sa_cons' (se_tup (sa_cons' (se_str lt17) (sa_cons' (se_var 1) (sa_cons' (se_var 2) (sa_cons' (se_str lt12) (sa_cons' (se_var 3) (sa_cons' (se_str lt11) (sa_cons' (se_cb rc_str (sa_cons' (se_var 4) sa_nil')) sa_nil')))))))) sa_nil'))
      (ss_seq (ss_setFS 0 lt16 (fi_Join_here T) (se_var 1))
      (ss_seq (ss_setFS 0 lt15 (fi_Join_there T) (se_var 2))
      (ss_seq (ss_setFS 0 lt7 (fi_Join_then T) (se_var 3))
      (ss_setFS 0 lt5 (fi_Join_add T) (se_var 4))))))) h (by decide)⟩
theorem sc_Part_init : FnScope ["self", "old", "left", "right", "add", "more"] ["self", "old", "left", "right", "add", "more"] (defScope s_Part_init) := ⟨rfl, rfl, rfl, by decide +kernel, rfl, by decide +kernel, by decide +kernel⟩
def m_Part_init : Nat → List (List Nat) → List T → List T → Prog (List (List Nat) × List T) := runI 6
  (vSeq (vDrop (vCall 1 m_refuse_wrong_rows (vCons (vTup (vCons (vTup (vCons (vC (.str [111, 108, 100])) (vCons (vCall 2 m_is_mark_or (vCons (vVar 1) (vCons (vTup (vCons (vC (.str [97, 110, 121])) vNil)) vNil))) vNil))) (vCons (vTup (vCons (vC (.str [108, 101, 102, 116])) (vCons (vCall 2 m_is_mark_or (vCons (vVar 2) (vCons (vTup (vCons (vC (.str [115, 97, 109, 101])) vNil)) vNil))) vNil))) (vCons (vTup (vCons (vC (.str [114, 105, 103, 104, 116])) (vCons (vCall 2 m_is_mark_or (vCons (vVar 3) (vCons (vTup (vCons (vC (.str [115, 97, 109, 101])) vNil)) vNil))) vNil))) (vCons (vTup (vCons (vC (.str [97, 100, 100])) (vCons (vCall 1 m_is_added (vCons (vVar 4) vNil)) vNil))) (vCons (vTup (vCons (vC (.str [109, 111, 114, 101])) (vCons (vCall 1 m_is_added (vCons (vVar 5) vNil)) vNil))) vNil)))))) vNil)))
      (vSeq (vOffI 0 2 [7, 8, 9] m_Row_init (vCons (vTup (vCons (vC (.str [112, 97, 114, 116])) (vCons (vVar 1) (vCons (vC (.str [116, 111])) (vCons (vVar 2) (vCons (vVar 3) (vCons (vC (.str [98, 121])) (vCons (vCB strT (vCons (vVar 4) vNil)) (vCons (vCB strT (vCons (vVar 5) vNil)) vNil))))))))) vNil))
      (vSeq (vSetFS 0 [9] [111, 108, 100] (vVar 1))
      (vSeq (vSetFS 0 [9] [108, 101, 102, 116] (vVar 2))
      (vSeq (vSetFS 0 [9] [114, 105, 103, 104, 116] (vVar 3))
      (vSeq (vSetFS 0 [9] [97, 100, 100] (vVar 4))
      (vSetFS 0 [9] [109, 111, 114, 101] (vVar 5))))))))
theorem ok_Part_init (T : Tx A K mg) (TW : TxW A K w) (c_is_added : CalX P w K mg base CX0 2 "_is_added" (spM (vcx A K w D) 1 m_is_added)) (c_is_mark_or : CalX P w K mg base CX0 2 "_is_mark_or" (spM (vcx A K w D) 2 m_is_mark_or)) (c_refuse_wrong_rows : CalX P w K mg base CX0 1 "refuse_wrong_rows" (spM (vcx A K w D) 1 m_refuse_wrong_rows)) {fd_Row_init : FuncData} (F_Row_init : FnOk P w K mg base CX0 1 A.f_Row_init fd_Row_init ["self", "words"] (spI (vcx A K w D) 2 [7, 8, 9] m_Row_init)) (b_Row_init : Binds K fd_Row_init ["self", "words"] []) {f : Addr} {fd : FuncData} (F : Fun K "__init__" "Part.__init__" s_Part_init f fd) : FnOk P w K mg base CX0 3 f fd ["self", "old", "left", "right", "add", "more"] (spI (vcx A K w D) 6 [9] m_Part_init) := by
  refine F.ok sc_Part_init (fun vs H Q E h => ?_) (fun cdv A' outer s H vs Q E hr h => ?_)
  · obtain ⟨_, _, _, _, _, _, _, _, _, _, hl, _⟩ := h; exact hl
  · exact ⟨_, (pss_cons (ps_expr (pe_cal c_refuse_wrong_rows hr (by decide) pass0 (pa_cons (pe_tup (pa_cons (pe_tup (pa_cons pe_str (pa_cons (pe_cal c_is_mark_or hr (by decide) pass0 (pa_cons (pv 1) (pa_cons (pe_tup (pa_cons pe_str pa_nil)) pa_nil))) pa_nil))) (pa_cons (pe_tup (pa_cons pe_str (pa_cons (pe_cal c_is_mark_or hr (by decide) pass0 (pa_cons (pv 2) (pa_cons (pe_tup (pa_cons pe_str pa_nil)) pa_nil))) pa_nil))) (pa_cons (pe_tup (pa_cons pe_str (pa_cons (pe_cal c_is_mark_or hr (by decide) pass0 (pa_cons (pv 3) (pa_cons (pe_tup (pa_cons pe_str pa_nil)) pa_nil))) pa_nil))) (pa_cons (pe_tup (pa_cons pe_str (pa_cons (pe_cal c_is_added hr (by decide) pass0 (pa_cons (pv 4) pa_nil)) pa_nil))) (pa_cons (pe_tup (pa_cons pe_str (pa_cons (pe_cal c_is_added hr (by decide) pass0 (pa_cons (pv 5) pa_nil)) pa_nil))) pa_nil)))))) pa_nil)))
      (pss_cons (ps_expr (pe_off (E := E0) (pe_glob (v := .ref A.Row) rfl T.g_Row rfl) ⟨T.rd_Row, T.ga_Row⟩ ⟨T.off_Row, rfl⟩ F_Row_init (hr.mono (by decide)) T.kp_Row_init b_Row_init pass0 (pa_cons (pv 0) (pa_cons (pe_tup (pa_cons pe_str (pa_cons (pv 1) (pa_cons pe_str (pa_cons (pv 2) (pa_cons (pv 3) (pa_cons pe_str (pa_cons (pe_callTy call_str_is (by rfl) T.z_str (by decide +kernel) (pa_cons (pv 4) pa_nil)) (pa_cons (pe_callTy call_str_is (by rfl) T.z_str (by decide +kernel) (pa_cons (pv 5) pa_nil)) pa_nil))))))))) pa_nil))))
      (pss_cons (ps_fld (pv 0) (pv 1) rfl)
      (pss_cons (ps_fld (pv 0) (pv 2) rfl)
      (pss_cons (ps_fld (pv 0) (pv 3) rfl)
      (pss_cons (ps_fld (pv 0) (pv 4) rfl)
      (pss_one (ps_fld (pv 0) (pv 5) rfl)))))))),
      ss_runI (E := E0) (N := ["self", "old", "left", "right", "add", "more"]) (mb := (vSeq (vDrop (vCall 1 m_refuse_wrong_rows (vCons (vTup (vCons (vTup (vCons (vC (.str [111, 108, 100])) (vCons (vCall 2 m_is_mark_or (vCons (vVar 1) (vCons (vTup (vCons (vC (.str [97, 110, 121])) vNil)) vNil))) vNil))) (vCons (vTup (vCons (vC (.str [108, 101, 102, 116])) (vCons (vCall 2 m_is_mark_or (vCons (vVar 2) (vCons (vTup (vCons (vC (.str [115, 97, 109, 101])) vNil)) vNil))) vNil))) (vCons (vTup (vCons (vC (.str [114, 105, 103, 104, 116])) (vCons (vCall 2 m_is_mark_or (vCons (vVar 3) (vCons (vTup (vCons (vC (.str [115, 97, 109, 101])) vNil)) vNil))) vNil))) (vCons (vTup (vCons (vC (.str [97, 100, 100])) (vCons (vCall 1 m_is_added (vCons (vVar 4) vNil)) vNil))) (vCons (vTup (vCons (vC (.str [109, 111, 114, 101])) (vCons (vCall 1 m_is_added (vCons (vVar 5) vNil)) vNil))) vNil)))))) vNil)))
      (vSeq (vOffI 0 2 [7, 8, 9] m_Row_init (vCons (vTup (vCons (vC (.str [112, 97, 114, 116])) (vCons (vVar 1) (vCons (vC (.str [116, 111])) (vCons (vVar 2) (vCons (vVar 3) (vCons (vC (.str [98, 121])) (vCons (vCB strT (vCons (vVar 4) vNil)) (vCons (vCB strT (vCons (vVar 5) vNil)) vNil))))))))) vNil))
      (vSeq (vSetFS 0 [9] [111, 108, 100] (vVar 1))
      (vSeq (vSetFS 0 [9] [108, 101, 102, 116] (vVar 2))
      (vSeq (vSetFS 0 [9] [114, 105, 103, 104, 116] (vVar 3))
      (vSeq (vSetFS 0 [9] [97, 100, 100] (vVar 4))
      (vSetFS 0 [9] [109, 111, 114, 101] (vVar 5))))))))) (ss_seq (ss_drop (se_call (sa_cons' (se_tup (sa_cons' (se_tup (sa_cons' (se_str lt9) (sa_cons' (se_call (sa_cons' (se_var 1) (sa_cons' (se_tup (sa_cons' (se_str lt8) sa_nil')) sa_nil'))) sa_nil'))) (sa_cons' (se_tup (sa_cons' (se_str lt20) (sa_cons' (se_call (sa_cons' (se_var 2) (sa_cons' (se_tup (sa_cons' (se_str lt6) sa_nil')) sa_nil'))) sa_nil'))) (sa_cons' (se_tup (sa_cons' (se_str lt19) (sa_cons' (se_call (sa_cons' (se_var 3) (sa_cons' (se_tup (sa_cons' (se_str lt6) sa_nil')) sa_nil'))) sa_nil'))) (sa_cons' (se_tup (sa_cons' (se_str lt5) (sa_cons' (se_call (sa_cons' (se_var 4) sa_nil')) sa_nil'))) (sa_cons' (se_tup (sa_cons' (se_str lt18) (sa_cons' (se_call (sa_cons' (se_var 5) sa_nil')) sa_nil'))) sa_nil')))))) sa_nil')))
      (ss_seq (ss_offI 0 (sa_cons' (se_tup (sa_cons' (se_str lt21) (sa_cons' (se_var 1) (sa_cons' (se_str lt12) (sa_cons' (se_var 2) (sa_cons' (se_var 3) (sa_cons' (se_str lt11) (sa_cons' (se_cb rc_str (sa_cons' (se_var 4) sa_nil')) (sa_cons' (se_cb rc_str (sa_cons' (se_var 5) sa_nil')) sa_nil'))))))))) sa_nil'))
      (ss_seq (ss_setFS 0 lt9 (fi_Part_old T) (se_var 1))
      (ss_seq (ss_setFS 0 lt20 (fi_Part_left T) (se_var 2))
      (ss_seq (ss_setFS 0 lt19 (fi_Part_right T) (se_var 3))
      (ss_seq (ss_setFS 0 lt5 (fi_Part_add T) (se_var 4))
      (ss_setFS 0 lt18 (fi_Part_more T) (se_var 5)))))))) h (by decide)⟩
theorem sc_Row_str : FnScope ["self"] ["self"] (defScope s_Row_str) := ⟨rfl, rfl, rfl, by decide +kernel, rfl, by decide +kernel, by decide +kernel⟩
def m_Row_str : List T → Prog T := runF 1
  (vRet (vSM joinT (vC (.str [32])) (vCons (vFld [7, 8, 9] [119, 111, 114, 100, 115] (vVar 0)) vNil)))
theorem ok_Row_str (T : Tx A K mg) (TW : TxW A K w)  {f : Addr} {fd : FuncData} (F : Fun K "__str__" "Row.__str__" s_Row_str f fd) : FnOk P w K mg base CX0 1 f fd ["self"] (spM (vcx A K w D) 1 m_Row_str) := by
  refine F.ok sc_Row_str (fun vs H Q E h => ?_) (fun cdv A' outer s H vs Q E hr h => ?_)
  · obtain ⟨_, _, hl, _⟩ := h; exact hl
  · exact ⟨_, (pss_one (ps_ret (pe_bm PySem.F.plainAttrs_str PySem.F.slot_str_join PySem.F.type_str_join (show MtR _ _ (rJoin K) from mt_join) pe_str (pa_cons (pe_fld (pv 0) rfl) pa_nil)))),
      ss_run (E := E0) (N := ["self"]) (mb := (vRet (vSM joinT (vC (.str [32])) (vCons (vFld [7, 8, 9] [119, 111, 114, 100, 115] (vVar 0)) vNil)))) (ss_ret (se_sm rm_join (se_str lt2) (sa_cons' (se_fld lt4 (fa_words T) (se_var 0)) sa_nil'))) h (by decide)⟩
theorem sc_Row_eq : FnScope ["self", "other"] ["self", "other"] (defScope s_Row_eq) := ⟨rfl, rfl, rfl, by decide +kernel, rfl, by decide +kernel, by decide +kernel⟩
def m_Row_eq : List T → Prog T := runF 2
  (vRet (vAndV (vCB (isiO 6 isT_Row) (vCons (vVar 1) (vCons (vC (.cl 6)) vNil))) (v2 eqT (vCBP (strOwnP 7 1 m_Row_str (strOwnP 8 1 m_Row_str (strOwnP 9 1 m_Row_str (fun ts => opt (strT ts))))) (vCons (vVar 0) vNil)) (vCBP (strOwnP 7 1 m_Row_str (strOwnP 8 1 m_Row_str (strOwnP 9 1 m_Row_str (fun ts => opt (strT ts))))) (vCons (vVar 1) vNil)))))
theorem ok_Row_eq (T : Tx A K mg) (TW : TxW A K w) {fd_Row_str : FuncData} (F_Row_str : FnOk P w K mg base CX0 1 A.f_Row_str fd_Row_str ["self"] (spM (vcx A K w D) 1 m_Row_str)) (b_Row_str : Binds K fd_Row_str ["self"] []) {f : Addr} {fd : FuncData} (F : Fun K "__eq__" "Row.__eq__" s_Row_eq f fd) : FnOk P w K mg base CX0 4 f fd ["self", "other"] (spM (vcx A K w D) 2 m_Row_eq) := by
  refine F.ok sc_Row_eq (fun vs H Q E h => ?_) (fun cdv A' outer s H vs Q E hr h => ?_)
  · obtain ⟨_, _, hl, _⟩ := h; exact hl
  · exact ⟨_, (pss_one (ps_ret (pe_and (pe_callB (show CallR _ _ (rIsi K) from call_isi) (by rfl) T.z_isinstance (by decide +kernel) (pa_cons (pv 1) (pa_cons (pe_glob (v := .ref A.Row) rfl T.g_Row rfl) pa_nil))) (pe_one (pe_cmpR (show OpR _ _ (rEqAny K) from op_eqAny hr.units) (pe_callTy (CallR.or (call_str_own (E := E0) (C := A.Step) ⟨T.m_Step_str, T.i_f_Row_str⟩ F_Row_str (hr.mono (by decide)) b_Row_str pass0) (CallR.or (call_str_own (E := E0) (C := A.Join) ⟨T.m_Join_str, T.i_f_Row_str⟩ F_Row_str (hr.mono (by decide)) b_Row_str pass0) (CallR.or (call_str_own (E := E0) (C := A.Part) ⟨T.m_Part_str, T.i_f_Row_str⟩ F_Row_str (hr.mono (by decide)) b_Row_str pass0) call_str_is))) (by rfl) T.z_str (by decide +kernel) (pa_cons (pv 0) pa_nil)) (pe_callTy (CallR.or (call_str_own (E := E0) (C := A.Step) ⟨T.m_Step_str, T.i_f_Row_str⟩ F_Row_str (hr.mono (by decide)) b_Row_str pass0) (CallR.or (call_str_own (E := E0) (C := A.Join) ⟨T.m_Join_str, T.i_f_Row_str⟩ F_Row_str (hr.mono (by decide)) b_Row_str pass0) (CallR.or (call_str_own (E := E0) (C := A.Part) ⟨T.m_Part_str, T.i_f_Row_str⟩ F_Row_str (hr.mono (by decide)) b_Row_str pass0) call_str_is))) (by rfl) T.z_str (by decide +kernel) (pa_cons (pv 1) pa_nil)) (nomark _)))))),
      ss_run (E := E0) (N := ["self", "other"]) (mb := (vRet (vAndV (vCB (isiO 6 isT_Row) (vCons (vVar 1) (vCons (vC (.cl 6)) vNil))) (v2 eqT (vCBP (strOwnP 7 1 m_Row_str (strOwnP 8 1 m_Row_str (strOwnP 9 1 m_Row_str (fun ts => opt (strT ts))))) (vCons (vVar 0) vNil)) (vCBP (strOwnP 7 1 m_Row_str (strOwnP 8 1 m_Row_str (strOwnP 9 1 m_Row_str (fun ts => opt (strT ts))))) (vCons (vVar 1) vNil)))))) (ss_ret (se_andV (se_cb (rc_isiO (isi_Row T)) (sa_cons' (se_var 1) (sa_cons' (se_cl 6 rfl) sa_nil'))) (se_op ro_eq (se_cbp (rcp_strOwn rfl (rcp_strOwn rfl (rcp_strOwn rfl (rcp_of rc_str)))) (sa_cons' (se_var 0) sa_nil')) (se_cbp (rcp_strOwn rfl (rcp_strOwn rfl (rcp_strOwn rfl (rcp_of rc_str)))) (sa_cons' (se_var 1) sa_nil'))))) h (by decide)⟩
theorem sc_Row_named : FnScope ["self", "word"] ["self"] (defScope s_Row_named) := ⟨rfl, rfl, rfl, by decide +kernel, rfl, by decide +kernel, by decide +kernel⟩
def m_Row_named : List T → Prog T := runF 2
  (vRet (vCB tupT (vCons (vLc [1] (vSeqI (vSl (vFld [7, 8, 9] [119, 111, 114, 100, 115] (vVar 0)) (vPart (vC (.int 1))) vNoPart)) (gNE 1) (vT (vCall 1 m_is_name (vCons (vVar 1) vNil))) (vVar 1)) vNil)))
theorem ok_Row_named (T : Tx A K mg) (TW : TxW A K w) (c_is_name : CalX P w K mg base CX0 1 "is_name" (spM (vcx A K w D) 1 m_is_name)) {f : Addr} {fd : FuncData} (F : Fun K "named" "Row.named" s_Row_named f fd) : FnOk P w K mg base CX0 2 f fd ["self"] (spM (vcx A K w D) 1 m_Row_named) := by
  refine F.ok sc_Row_named (fun vs H Q E h => ?_) (fun cdv A' outer s H vs Q E hr h => ?_)
  · obtain ⟨_, _, hl, _⟩ := h; exact hl
  · exact ⟨_, (pss_one (ps_ret (pe_callTy (show CallR _ _ (rTupOf K) from call_tuple_of) (by rfl) T.z_tuple (by decide +kernel) (pa_cons (pe_lc (own := [("word", 1)]) (g := (gName 1)) rfl sc_Row_named.nd (show PI _ _ _ (iAny K _) from pi_any (pe_slice (show SlR _ (rSlAny K) from sl_any) (pe_fld (pv 0) rfl) (po_some pe_int) po_none)) (blkOk_by (own := [("word", 1)]) (N := ["self", "word"]) (sc := defScope s_Row_named) (by decide +kernel)) (fun _ _ _ _ _ => pg_name (i := 1) sc_Row_named.nd rfl (Or.inl rfl)) (fun _ _ _ _ _ => pts_one (pt_val (pe_cal c_is_name hr (by decide) pass0 (pa_cons (pv 1) pa_nil)))) (fun _ _ _ _ _ => (pv 1))) pa_nil)))),
      ss_run (E := E0) (N := ["self", "word"]) (mb := (vRet (vCB tupT (vCons (vLc [1] (vSeqI (vSl (vFld [7, 8, 9] [119, 111, 114, 100, 115] (vVar 0)) (vPart (vC (.int 1))) vNoPart)) (gNE 1) (vT (vCall 1 m_is_name (vCons (vVar 1) vNil))) (vVar 1)) vNil)))) (ss_ret (se_cb rc_tup (sa_cons' (SF.se (sf_lc (si_any (se_sl (se_fld lt4 (fa_words T) (se_var 0)) (so_part se_int) so_none)) (sge_name 1 (by decide)) (st_B (se_call (sa_cons' (se_var 1) sa_nil'))) (se_var 1))) sa_nil'))) h (by decide)⟩
theorem sc_row_of_words : FnScope ["words"] ["words"] (defScope s_row_of_words) := ⟨rfl, rfl, rfl, by decide +kernel, rfl, by decide +kernel, by decide +kernel⟩
def m_row_of_words : List T → Prog T := runF 1
  (vSeq (vIfS (vT (v2 eqT (vCB lenT' (vCons (vVar 0) vNil)) (vC (.int 6)))) (vRet (vMake 7 5 m_Step_init (vCons (v2 ixT (vVar 0) (vC (.int 0))) (vCons (v2 ixT (vVar 0) (vC (.int 1))) (vCons (v2 ixT (vVar 0) (vC (.int 3))) (vCons (v1 (kgetT tb_ADDED) (v2 ixT (vVar 0) (vC (.int 5)))) vNil)))))) vNext)
      (vSeq (vIfS (vT (v2 eqT (vCB lenT' (vCons (vVar 0) vNil)) (vC (.int 7)))) (vRet (vMake 8 5 m_Join_init (vCons (v2 ixT (vVar 0) (vC (.int 1))) (vCons (v2 ixT (vVar 0) (vC (.int 2))) (vCons (v2 ixT (vVar 0) (vC (.int 4))) (vCons (v1 (kgetT tb_ADDED) (v2 ixT (vVar 0) (vC (.int 6)))) vNil)))))) vNext)
      (vSeq (vIfS (vT (v2 eqT (vCB lenT' (vCons (vVar 0) vNil)) (vC (.int 8)))) (vRet (vMake 9 6 m_Part_init (vCons (v2 ixT (vVar 0) (vC (.int 1))) (vCons (v2 ixT (vVar 0) (vC (.int 3))) (vCons (v2 ixT (vVar 0) (vC (.int 4))) (vCons (v1 (kgetT tb_ADDED) (v2 ixT (vVar 0) (vC (.int 6)))) (vCons (v1 (kgetT tb_ADDED) (v2 ixT (vVar 0) (vC (.int 7)))) vNil))))))) vNext)
      (fun _ => .fail))))
theorem ok_row_of_words (T : Tx A K mg) (TW : TxW A K w) (c_Step_init : MakX P w K mg base CX0 3 "Step" A.Step (spI (vcx A K w D) 5 [7] m_Step_init)) (c_Join_init : MakX P w K mg base CX0 3 "Join" A.Join (spI (vcx A K w D) 5 [8] m_Join_init)) (c_Part_init : MakX P w K mg base CX0 3 "Part" A.Part (spI (vcx A K w D) 6 [9] m_Part_init)) {f : Addr} {fd : FuncData} (F : Fun K "_row_of_words" "_row_of_words" s_row_of_words f fd) : FnOk P w K mg base CX0 5 f fd ["words"] (spM (vcx A K w D) 1 m_row_of_words) := by
  refine F.ok sc_row_of_words (fun vs H Q E h => ?_) (fun cdv A' outer s H vs Q E hr h => ?_)
  · obtain ⟨_, _, hl, _⟩ := h; exact hl
  · exact ⟨_, (pss_cons (ps_if (pt_cmpR (show OpR _ _ (rEqAny K) from op_eqAny hr.units) (pe_callB (show CallR _ _ (rLenAny K) from call_lenAny) (by rfl) T.z_len (by decide +kernel) (pa_cons (pv 0) pa_nil)) pe_int (nomark _)) (pss_one (ps_ret (pe_mkc c_Step_init hr (by decide) pass0 (pa_cons (pe_ix (show IxR _ (rIx K) from ix_seq) (pv 0) pe_int (fun _ _ => rfl)) (pa_cons (pe_ix (show IxR _ (rIx K) from ix_seq) (pv 0) pe_int (fun _ _ => rfl)) (pa_cons (pe_ix (show IxR _ (rIx K) from ix_seq) (pv 0) pe_int (fun _ _ => rfl)) (pa_cons (pe_kget TW.d_ADDED (pe_glob (v := .ref A.ADDED) rfl T.g_ADDED rfl) (pe_ix (show IxR _ (rIx K) from ix_seq) (pv 0) pe_int (fun _ _ => rfl)) ⟨rfl, rfl, rfl, rfl⟩) pa_nil))))))) pss_nil)
      (pss_cons (ps_if (pt_cmpR (show OpR _ _ (rEqAny K) from op_eqAny hr.units) (pe_callB (show CallR _ _ (rLenAny K) from call_lenAny) (by rfl) T.z_len (by decide +kernel) (pa_cons (pv 0) pa_nil)) pe_int (nomark _)) (pss_one (ps_ret (pe_mkc c_Join_init hr (by decide) pass0 (pa_cons (pe_ix (show IxR _ (rIx K) from ix_seq) (pv 0) pe_int (fun _ _ => rfl)) (pa_cons (pe_ix (show IxR _ (rIx K) from ix_seq) (pv 0) pe_int (fun _ _ => rfl)) (pa_cons (pe_ix (show IxR _ (rIx K) from ix_seq) (pv 0) pe_int (fun _ _ => rfl)) (pa_cons (pe_kget TW.d_ADDED (pe_glob (v := .ref A.ADDED) rfl T.g_ADDED rfl) (pe_ix (show IxR _ (rIx K) from ix_seq) (pv 0) pe_int (fun _ _ => rfl)) ⟨rfl, rfl, rfl, rfl⟩) pa_nil))))))) pss_nil)
      (pss_cons (ps_if (pt_cmpR (show OpR _ _ (rEqAny K) from op_eqAny hr.units) (pe_callB (show CallR _ _ (rLenAny K) from call_lenAny) (by rfl) T.z_len (by decide +kernel) (pa_cons (pv 0) pa_nil)) pe_int (nomark _)) (pss_one (ps_ret (pe_mkc c_Part_init hr (by decide) pass0 (pa_cons (pe_ix (show IxR _ (rIx K) from ix_seq) (pv 0) pe_int (fun _ _ => rfl)) (pa_cons (pe_ix (show IxR _ (rIx K) from ix_seq) (pv 0) pe_int (fun _ _ => rfl)) (pa_cons (pe_ix (show IxR _ (rIx K) from ix_seq) (pv 0) pe_int (fun _ _ => rfl)) (pa_cons (pe_kget TW.d_ADDED (pe_glob (v := .ref A.ADDED) rfl T.g_ADDED rfl) (pe_ix (show IxR _ (rIx K) from ix_seq) (pv 0) pe_int (fun _ _ => rfl)) ⟨rfl, rfl, rfl, rfl⟩) (pa_cons (pe_kget TW.d_ADDED (pe_glob (v := .ref A.ADDED) rfl T.g_ADDED rfl) (pe_ix (show IxR _ (rIx K) from ix_seq) (pv 0) pe_int (fun _ _ => rfl)) ⟨rfl, rfl, rfl, rfl⟩) pa_nil)))))))) pss_nil)
      (pss_one ps_never)))),
      ss_run (E := E0) (N := ["words"]) (mb := (vSeq (vIfS (vT (v2 eqT (vCB lenT' (vCons (vVar 0) vNil)) (vC (.int 6)))) (vRet (vMake 7 5 m_Step_init (vCons (v2 ixT (vVar 0) (vC (.int 0))) (vCons (v2 ixT (vVar 0) (vC (.int 1))) (vCons (v2 ixT (vVar 0) (vC (.int 3))) (vCons (v1 (kgetT tb_ADDED) (v2 ixT (vVar 0) (vC (.int 5)))) vNil)))))) vNext)
      (vSeq (vIfS (vT (v2 eqT (vCB lenT' (vCons (vVar 0) vNil)) (vC (.int 7)))) (vRet (vMake 8 5 m_Join_init (vCons (v2 ixT (vVar 0) (vC (.int 1))) (vCons (v2 ixT (vVar 0) (vC (.int 2))) (vCons (v2 ixT (vVar 0) (vC (.int 4))) (vCons (v1 (kgetT tb_ADDED) (v2 ixT (vVar 0) (vC (.int 6)))) vNil)))))) vNext)
      (vSeq (vIfS (vT (v2 eqT (vCB lenT' (vCons (vVar 0) vNil)) (vC (.int 8)))) (vRet (vMake 9 6 m_Part_init (vCons (v2 ixT (vVar 0) (vC (.int 1))) (vCons (v2 ixT (vVar 0) (vC (.int 3))) (vCons (v2 ixT (vVar 0) (vC (.int 4))) (vCons (v1 (kgetT tb_ADDED) (v2 ixT (vVar 0) (vC (.int 6)))) (vCons (v1 (kgetT tb_ADDED) (v2 ixT (vVar 0) (vC (.int 7)))) vNil))))))) vNext)
      (fun _ => .fail))))) (ss_seq (ss_if (st_test (se_op ro_eq (se_cb rc_len (sa_cons' (se_var 0) sa_nil')) se_int)) (ss_ret (se_make rfl (by decide) (sa_cons' (se_op ro_ix (se_var 0) se_int) (sa_cons' (se_op ro_ix (se_var 0) se_int) (sa_cons' (se_op ro_ix (se_var 0) se_int) (sa_cons' (se_kget tb_ADDED_eq (se_op ro_ix (se_var 0) se_int)) sa_nil')))))) ss_next)
      (ss_seq (ss_if (st_test (se_op ro_eq (se_cb rc_len (sa_cons' (se_var 0) sa_nil')) se_int)) (ss_ret (se_make rfl (by decide) (sa_cons' (se_op ro_ix (se_var 0) se_int) (sa_cons' (se_op ro_ix (se_var 0) se_int) (sa_cons' (se_op ro_ix (se_var 0) se_int) (sa_cons' (se_kget tb_ADDED_eq (se_op ro_ix (se_var 0) se_int)) sa_nil')))))) ss_next)
      (ss_seq (ss_if (st_test (se_op ro_eq (se_cb rc_len (sa_cons' (se_var 0) sa_nil')) se_int)) (ss_ret (se_make rfl (by decide) (sa_cons' (se_op ro_ix (se_var 0) se_int) (sa_cons' (se_op ro_ix (se_var 0) se_int) (sa_cons' (se_op ro_ix (se_var 0) se_int) (sa_cons' (se_kget tb_ADDED_eq (se_op ro_ix (se_var 0) se_int)) (sa_cons' (se_kget tb_ADDED_eq (se_op ro_ix (se_var 0) se_int)) sa_nil'))))))) ss_next)
      ss_never))) h (by decide)⟩
theorem sc_row_with_text : FnScope ["text", "row"] ["text"] (defScope s_row_with_text) := ⟨rfl, rfl, rfl, by decide +kernel, rfl, by decide +kernel, by decide +kernel⟩
def m_row_with_text : List T → Prog T := runF 2
  (vSeq (vIfS (vNotT (vT (vCB isiB (vCons (vVar 0) (vCons (vC (.ty "str")) vNil))))) (fun _ => .fail) vNext)
      (vSeq (vSetS 1 (vCall 1 m_row_of_words (vCons (vCall 1 m_split_words (vCons (vVar 0) vNil)) vNil)))
      (vSeq (vIfS (vT (v2 neT (vCBP (strOwnP 7 1 m_Row_str (strOwnP 8 1 m_Row_str (strOwnP 9 1 m_Row_str (fun ts => opt (strT ts))))) (vCons (vVar 1) vNil)) (vVar 0))) (fun _ => .fail) vNext)
      (vRet (vVar 1)))))
theorem ok_row_with_text (T : Tx A K mg) (TW : TxW A K w) (c_split_words : CalX P w K mg base CX0 1 "split_words" (spM (vcx A K w D) 1 m_split_words)) (c_row_of_words : CalX P w K mg base CX0 5 "_row_of_words" (spM (vcx A K w D) 1 m_row_of_words)) {fd_Row_str : FuncData} (F_Row_str : FnOk P w K mg base CX0 1 A.f_Row_str fd_Row_str ["self"] (spM (vcx A K w D) 1 m_Row_str)) (b_Row_str : Binds K fd_Row_str ["self"] []) {f : Addr} {fd : FuncData} (F : Fun K "_row_with_text" "_row_with_text" s_row_with_text f fd) : FnOk P w K mg base CX0 6 f fd ["text"] (spM (vcx A K w D) 1 m_row_with_text) := by
  refine F.ok sc_row_with_text (fun vs H Q E h => ?_) (fun cdv A' outer s H vs Q E hr h => ?_)
  · obtain ⟨_, _, hl, _⟩ := h; exact hl
  · exact ⟨_, (pss_cons (ps_if (pt_not (pt_val (pe_callB (show CallR _ _ (rIsi K) from call_isi) (by rfl) T.z_isinstance (by decide +kernel) (pa_cons (pv 0) (pa_cons (pe_bltn (v := .ty "str") (by rfl) T.z_str (by decide +kernel) rfl) pa_nil))))) (pss_one ps_never) pss_nil)
      (pss_cons (ps_try_thru0 (pss_one (ps_set (i := 1) sc_row_with_text.nd rfl (by first | exact .inl rfl | exact .inr rfl) (pe_cal c_row_of_words hr (by decide) pass0 (pa_cons (pe_cal c_split_words hr (by decide) pass0 (pa_cons (pv 0) pa_nil)) pa_nil)))))
      (pss_cons (ps_if (pt_cmpR (show OpR _ _ (rNeAny K) from op_neAny hr.units) (pe_callTy (CallR.or (call_str_own (E := E0) (C := A.Step) ⟨T.m_Step_str, T.i_f_Row_str⟩ F_Row_str (hr.mono (by decide)) b_Row_str pass0) (CallR.or (call_str_own (E := E0) (C := A.Join) ⟨T.m_Join_str, T.i_f_Row_str⟩ F_Row_str (hr.mono (by decide)) b_Row_str pass0) (CallR.or (call_str_own (E := E0) (C := A.Part) ⟨T.m_Part_str, T.i_f_Row_str⟩ F_Row_str (hr.mono (by decide)) b_Row_str pass0) call_str_is))) (by rfl) T.z_str (by decide +kernel) (pa_cons (pv 1) pa_nil)) (pv 0) (nomark _)) (pss_one ps_never) pss_nil)
      (pss_one (ps_ret (pv 1)))))),
      ss_run (E := E0) (N := ["text", "row"]) (mb := (vSeq (vIfS (vNotT (vT (vCB isiB (vCons (vVar 0) (vCons (vC (.ty "str")) vNil))))) (fun _ => .fail) vNext)
      (vSeq (vSetS 1 (vCall 1 m_row_of_words (vCons (vCall 1 m_split_words (vCons (vVar 0) vNil)) vNil)))
      (vSeq (vIfS (vT (v2 neT (vCBP (strOwnP 7 1 m_Row_str (strOwnP 8 1 m_Row_str (strOwnP 9 1 m_Row_str (fun ts => opt (strT ts))))) (vCons (vVar 1) vNil)) (vVar 0))) (fun _ => .fail) vNext)
      (vRet (vVar 1)))))) (ss_seq (ss_if (st_not (st_B (se_cb rc_isiB (sa_cons' (se_var 0) (sa_cons' se_ty sa_nil'))))) ss_never ss_next)
      (ss_seq (ss_setS 1 (se_call (sa_cons' (se_call (sa_cons' (se_var 0) sa_nil')) sa_nil')))
      (ss_seq (ss_if (st_test (se_op ro_ne (se_cbp (rcp_strOwn rfl (rcp_strOwn rfl (rcp_strOwn rfl (rcp_of rc_str)))) (sa_cons' (se_var 1) sa_nil')) (se_var 0))) ss_never ss_next)
      (ss_ret (se_var 1))))) h (by decide)⟩
theorem sc_Row_read : FnScope ["cls", "text"] ["cls", "text"] (defScope s_Row_read) := ⟨rfl, rfl, rfl, by decide +kernel, rfl, by decide +kernel, by decide +kernel⟩
def m_Row_read : List T → Prog T := runF 2
  (vRet (vCall 1 m_row_with_text (vCons (vVar 1) vNil)))
theorem ok_Row_read (T : Tx A K mg) (TW : TxW A K w) (c_row_with_text : CalX P w K mg base CX0 6 "_row_with_text" (spM (vcx A K w D) 1 m_row_with_text)) {f : Addr} {fd : FuncData} (F : Fun K "read" "Row.read" s_Row_read f fd) : FnOk P w K mg base CX0 7 f fd ["cls", "text"] (spM (vcx A K w D) 2 m_Row_read) := by
  refine F.ok sc_Row_read (fun vs H Q E h => ?_) (fun cdv A' outer s H vs Q E hr h => ?_)
  · obtain ⟨_, _, hl, _⟩ := h; exact hl
  · exact ⟨_, (pss_one (ps_ret (pe_cal c_row_with_text hr (by decide) pass0 (pa_cons (pv 1) pa_nil)))),
      ss_run (E := E0) (N := ["cls", "text"]) (mb := (vRet (vCall 1 m_row_with_text (vCons (vVar 1) vNil)))) (ss_ret (se_call (sa_cons' (se_var 1) sa_nil'))) h (by decide)⟩
theorem sc_rows_of : FnScope ["rows", "kind", "row"] ["rows", "kind"] (defScope s_rows_of) := ⟨rfl, rfl, rfl, by decide +kernel, rfl, by decide +kernel, by decide +kernel⟩
def m_rows_of : List T → Prog T := runF 3
  (vRet (vLc [2] (vSeqI (vVar 0)) (gNE 2) (vT (v2 eqT (v2 ixT (vFld [7, 8, 9] [119, 111, 114, 100, 115] (vVar 2)) (vC (.int 0))) (vVar 1))) (vVar 2)))
theorem ok_rows_of (T : Tx A K mg) (TW : TxW A K w)  {f : Addr} {fd : FuncData} (F : Fun K "rows_of" "rows_of" s_rows_of f fd) : FnOk P w K mg base CX0 1 f fd ["rows", "kind"] (spM (vcx A K w D) 2 m_rows_of) := by
  refine F.ok sc_rows_of (fun vs H Q E h => ?_) (fun cdv A' outer s H vs Q E hr h => ?_)
  · obtain ⟨_, _, hl, _⟩ := h; exact hl
  · exact ⟨_, (pss_one (ps_ret (pe_lc (own := [("row", 2)]) (g := (gName 2)) rfl sc_rows_of.nd (show PI _ _ _ (iAny K _) from pi_any (pv 0)) (blkOk_by (own := [("row", 2)]) (N := ["rows", "kind", "row"]) (sc := defScope s_rows_of) (by decide +kernel)) (fun _ _ _ _ _ => pg_name (i := 2) sc_rows_of.nd rfl (Or.inl rfl)) (fun _ _ _ _ _ => pts_one (pt_cmpR (show OpR _ _ (rEqAny K) from op_eqAny hr.units) (pe_ix (show IxR _ (rIx K) from ix_seq) (pe_fld (pv 2) rfl) pe_int (fun _ _ => rfl)) (pv 1) (nomark _))) (fun _ _ _ _ _ => (pv 2))))),
      ss_run (E := E0) (N := ["rows", "kind", "row"]) (mb := (vRet (vLc [2] (vSeqI (vVar 0)) (gNE 2) (vT (v2 eqT (v2 ixT (vFld [7, 8, 9] [119, 111, 114, 100, 115] (vVar 2)) (vC (.int 0))) (vVar 1))) (vVar 2)))) (ss_ret (SF.se (sf_lc (si_any (se_var 0)) (sge_name 2 (by decide)) (st_test (se_op ro_eq (se_op ro_ix (se_fld lt4 (fa_words T) (se_var 2)) se_int) (se_var 1))) (se_var 2)))) h (by decide)⟩
theorem sc_fitting : FnScope ["pattern", "marks"] ["pattern", "marks"] (defScope s_fitting) := ⟨rfl, rfl, rfl, by decide +kernel, rfl, by decide +kernel, by decide +kernel⟩
def m_fitting : List T → Prog T := runF 2
  (vRet (vIf (vT (v2 eqT (vVar 0) (vC (.str [97, 110, 121])))) (vVar 1) (vTup (vCons (vVar 0) vNil))))
theorem ok_fitting (T : Tx A K mg) (TW : TxW A K w)  {f : Addr} {fd : FuncData} (F : Fun K "_fitting" "_fitting" s_fitting f fd) : FnOk P w K mg base CX0 1 f fd ["pattern", "marks"] (spM (vcx A K w D) 2 m_fitting) := by
  refine F.ok sc_fitting (fun vs H Q E h => ?_) (fun cdv A' outer s H vs Q E hr h => ?_)
  · obtain ⟨_, _, hl, _⟩ := h; exact hl
  · exact ⟨_, (pss_one (ps_ret (pe_ifExp (pt_cmpR (show OpR _ _ (rEqAny K) from op_eqAny hr.units) (pv 0) pe_str (nomark _)) (pv 1) (pe_tup (pa_cons (pv 0) pa_nil))))),
      ss_run (E := E0) (N := ["pattern", "marks"]) (mb := (vRet (vIf (vT (v2 eqT (vVar 0) (vC (.str [97, 110, 121])))) (vVar 1) (vTup (vCons (vVar 0) vNil))))) (ss_ret (se_if (st_test (se_op ro_eq (se_var 0) (se_str lt8))) (se_var 1) (se_tup (sa_cons' (se_var 0) sa_nil')))) h (by decide)⟩
theorem sc_or_same : FnScope ["then", "mark"] ["then", "mark"] (defScope s_or_same) := ⟨rfl, rfl, rfl, by decide +kernel, rfl, by decide +kernel, by decide +kernel⟩
def m_or_same : List T → Prog T := runF 2
  (vRet (vIf (vT (v2 eqT (vVar 0) (vC (.str [115, 97, 109, 101])))) (vVar 1) (vVar 0)))
theorem ok_or_same (T : Tx A K mg) (TW : TxW A K w)  {f : Addr} {fd : FuncData} (F : Fun K "_or_same" "_or_same" s_or_same f fd) : FnOk P w K mg base CX0 1 f fd ["then", "mark"] (spM (vcx A K w D) 2 m_or_same) := by
  refine F.ok sc_or_same (fun vs H Q E h => ?_) (fun cdv A' outer s H vs Q E hr h => ?_)
  · obtain ⟨_, _, hl, _⟩ := h; exact hl
  · exact ⟨_, (pss_one (ps_ret (pe_ifExp (pt_cmpR (show OpR _ _ (rEqAny K) from op_eqAny hr.units) (pv 0) pe_str (nomark _)) (pv 1) (pv 0)))),
      ss_run (E := E0) (N := ["then", "mark"]) (mb := (vRet (vIf (vT (v2 eqT (vVar 0) (vC (.str [115, 97, 109, 101])))) (vVar 1) (vVar 0)))) (ss_ret (se_if (st_test (se_op ro_eq (se_var 0) (se_str lt6))) (se_var 1) (se_var 0))) h (by decide)⟩
theorem sc_of_both : FnScope ["then", "here", "there"] ["then", "here", "there"] (defScope s_of_both) := ⟨rfl, rfl, rfl, by decide +kernel, rfl, by decide +kernel, by decide +kernel⟩
def m_of_both : List T → Prog T := runF 3
  (vSeq (vIfS (vT (v2 eqT (vVar 0) (vC (.str [111, 110, 101])))) (vRet (vVar 1)) vNext)
      (vSeq (vIfS (vT (v2 eqT (vVar 0) (vC (.str [111, 116, 104, 101, 114])))) (vRet (vVar 2)) vNext)
      (vRet (vVar 0))))
theorem ok_of_both (T : Tx A K mg) (TW : TxW A K w)  {f : Addr} {fd : FuncData} (F : Fun K "_of_both" "_of_both" s_of_both f fd) : FnOk P w K mg base CX0 1 f fd ["then", "here", "there"] (spM (vcx A K w D) 3 m_of_both) := by
  refine F.ok sc_of_both (fun vs H Q E h => ?_) (fun cdv A' outer s H vs Q E hr h => ?_)
  · obtain ⟨_, _, hl, _⟩ := h; exact hl
  · exact ⟨_, (pss_cons (ps_if (pt_cmpR (show OpR _ _ (rEqAny K) from op_eqAny hr.units) (pv 0) pe_str (nomark _)) (pss_one (ps_ret (pv 1))) pss_nil)
      (pss_cons (ps_if (pt_cmpR (show OpR _ _ (rEqAny K) from op_eqAny hr.units) (pv 0) pe_str (nomark _)) (pss_one (ps_ret (pv 2))) pss_nil)
      (pss_one (ps_ret (pv 0))))),
      ss_run (E := E0) (N := ["then", "here", "there"]) (mb := (vSeq (vIfS (vT (v2 eqT (vVar 0) (vC (.str [111, 110, 101])))) (vRet (vVar 1)) vNext)
      (vSeq (vIfS (vT (v2 eqT (vVar 0) (vC (.str [111, 116, 104, 101, 114])))) (vRet (vVar 2)) vNext)
      (vRet (vVar 0))))) (ss_seq (ss_if (st_test (se_op ro_eq (se_var 0) (se_str lt14))) (ss_ret (se_var 1)) ss_next)
      (ss_seq (ss_if (st_test (se_op ro_eq (se_var 0) (se_str lt13))) (ss_ret (se_var 2)) ss_next)
      (ss_ret (se_var 0)))) h (by decide)⟩
theorem sc_step_table : FnScope ["marks", "rows", "told", "row", "mark"] ["marks", "rows"] (defScope s_step_table) := ⟨rfl, rfl, rfl, by decide +kernel, rfl, by decide +kernel, by decide +kernel⟩
def m_step_table : List T → Prog T := runF 5
  (vSeq (vSetOwn 2 (vX (.dK [] []) [4] (vSeqI (vVar 0)) (gNE 4) (fun _ => .ret true) fun ρ acc => match acc with | .dK _ _ => eD (vVar 4) (vTup (vCons (vVar 4) (vCons (vC (.int 0)) vNil))) ρ acc | _ => .fail))
      (vSeq (vFor (vRev (vCons (vCB lstT (vCons (vVar 1) vNil)) vNil)) (gN 3) (vFor (vSeqI (vCall 2 m_fitting (vCons (vFld [7, 9] [111, 108, 100] (vVar 3)) (vCons (vVar 0) vNil)))) (gN 4) (vPut 2 (vVar 4) (vTup (vCons (vCall 2 m_or_same (vCons (vFld [7, 8] [116, 104, 101, 110] (vVar 3)) (vCons (vVar 4) vNil))) (vCons (vFld [7, 8, 9] [97, 100, 100] (vVar 3)) vNil))))))
      (vRet (vVar 2))))
theorem ok_step_table (T : Tx A K mg) (TW : TxW A K w) (c_fitting : CalX P w K mg base CX0 1 "_fitting" (spM (vcx A K w D) 2 m_fitting)) (c_or_same : CalX P w K mg base CX0 1 "_or_same" (spM (vcx A K w D) 2 m_or_same)) {f : Addr} {fd : FuncData} (F : Fun K "step_table" "step_table" s_step_table f fd) : FnOk P w K mg base CX0 2 f fd ["marks", "rows"] (spM (vcx A K w D) 2 m_step_table) := by
  refine F.ok sc_step_table (fun vs H Q E h => ?_) (fun cdv A' outer s H vs Q E hr h => ?_)
  · obtain ⟨_, _, hl, _⟩ := h; exact hl
  · exact ⟨_, (pss_cons (ps_setDc (i := 2) (own := [("mark", 4)]) (g := (gName 4)) rfl rfl (sw_dict rfl rfl rfl (by decide +kernel)) rfl sc_step_table.nd (show PI _ _ _ (iAny K _) from pi_any (pv 0)) (blkOk_by (own := [("mark", 4)]) (N := ["marks", "rows", "told", "row", "mark"]) (sc := defScope s_step_table) (by decide +kernel)) (fun _ _ _ _ _ => pg_name (i := 4) sc_step_table.nd rfl (Or.inl rfl)) (fun _ _ _ _ _ => pts_nil) (fun _ _ _ _ _ => (pv 4)) (fun _ _ _ _ _ => (pe_tup (pa_cons (pv 4) (pa_cons pe_int pa_nil)))))
      (pss_cons (ps_for PassesOwn.never rfl (show PI _ _ _ (iRev K _) from pi_reversed (by rfl) T.z_reversed (pa_cons (pe_callTy (show CallR _ _ (rLstOf K) from call_list_of) (by rfl) T.z_list (by decide +kernel) (pa_cons (pv 1) pa_nil)) pa_nil)) (pg_name (i := 3) sc_step_table.nd rfl (by first | exact .inl rfl | exact .inr rfl)) (pss_one (ps_for PassesOwn.never rfl (show PI _ _ _ (iAny K _) from pi_any (pe_cal c_fitting hr (by decide) pass0 (pa_cons (pe_fld (pv 3) rfl) (pa_cons (pv 0) pa_nil)))) (pg_name (i := 4) sc_step_table.nd rfl (by first | exact .inl rfl | exact .inr rfl)) (pss_one (ps_dput (hu_of hr) (pv 2) (pv 4) (pe_tup (pa_cons (pe_cal c_or_same hr (by decide) pass0 (pa_cons (pe_fld (pv 3) rfl) (pa_cons (pv 4) pa_nil))) (pa_cons (pe_fld (pv 3) rfl) pa_nil))) rfl)))))
      (pss_one (ps_ret (pv 2))))),
      ss_run (E := E0) (N := ["marks", "rows", "told", "row", "mark"]) (mb := (vSeq (vSetOwn 2 (vX (.dK [] []) [4] (vSeqI (vVar 0)) (gNE 4) (fun _ => .ret true) fun ρ acc => match acc with | .dK _ _ => eD (vVar 4) (vTup (vCons (vVar 4) (vCons (vC (.int 0)) vNil))) ρ acc | _ => .fail))
      (vSeq (vFor (vRev (vCons (vCB lstT (vCons (vVar 1) vNil)) vNil)) (gN 3) (vFor (vSeqI (vCall 2 m_fitting (vCons (vFld [7, 9] [111, 108, 100] (vVar 3)) (vCons (vVar 0) vNil)))) (gN 4) (vPut 2 (vVar 4) (vTup (vCons (vCall 2 m_or_same (vCons (vFld [7, 8] [116, 104, 101, 110] (vVar 3)) (vCons (vVar 4) vNil))) (vCons (vFld [7, 8, 9] [97, 100, 100] (vVar 3)) vNil))))))
      (vRet (vVar 2))))) (ss_seq (ss_setOwn 2 (sf_dc (si_any (se_var 0)) (sge_name 4 (by decide)) st_yes (se_var 4) (se_tup (sa_cons' (se_var 4) (sa_cons' se_int sa_nil')))))
      (ss_seq (ss_for (si_rev (sa_cons' (se_cb rc_lst (sa_cons' (se_var 1) sa_nil')) sa_nil')) (sg_name 3) (ss_for (si_any (se_call (sa_cons' (se_fld lt9 (fa_old T) (se_var 3)) (sa_cons' (se_var 0) sa_nil')))) (sg_name 4) (ss_put 2 (se_var 4) (se_tup (sa_cons' (se_call (sa_cons' (se_fld lt7 (fa_then T) (se_var 3)) (sa_cons' (se_var 4) sa_nil'))) (sa_cons' (se_fld lt5 (fa_add T) (se_var 3)) sa_nil'))))))
      (ss_ret (se_var 2)))) h (by decide)⟩
theorem sc_all_steps : FnScope ["marks", "rows", "kind"] ["marks", "rows"] (defScope s_all_steps) := ⟨rfl, rfl, rfl, by decide +kernel, rfl, by decide +kernel, by decide +kernel⟩
def m_all_steps : List T → Prog T := runF 3
  (vRet (vX (.dK [] []) [2] (vSeqI (vC k_KINDS)) (gNE 2) (fun _ => .ret true) fun ρ acc => match acc with | .dK _ _ => eD (vVar 2) (vCall 2 m_step_table (vCons (vVar 0) (vCons (vCall 2 m_rows_of (vCons (vVar 1) (vCons (vVar 2) vNil))) vNil))) ρ acc | _ => .fail))
theorem ok_all_steps (T : Tx A K mg) (TW : TxW A K w) (c_rows_of : CalX P w K mg base CX0 1 "rows_of" (spM (vcx A K w D) 2 m_rows_of)) (c_step_table : CalX P w K mg base CX0 2 "step_table" (spM (vcx A K w D) 2 m_step_table)) {f : Addr} {fd : FuncData} (F : Fun K "all_steps" "all_steps" s_all_steps f fd) : FnOk P w K mg base CX0 3 f fd ["marks", "rows"] (spM (vcx A K w D) 2 m_all_steps) := by
  refine F.ok sc_all_steps (fun vs H Q E h => ?_) (fun cdv A' outer s H vs Q E hr h => ?_)
  · obtain ⟨_, _, hl, _⟩ := h; exact hl
  · exact ⟨_, (pss_one (ps_ret (pe_dc (own := [("kind", 2)]) (g := (gName 2)) rfl sc_all_steps.nd (show PI _ _ _ (iAny K _) from pi_any (pe_glob (v := .ref A.KINDS) rfl T.g_KINDS rfl)) (blkOk_by (own := [("kind", 2)]) (N := ["marks", "rows", "kind"]) (sc := defScope s_all_steps) (by decide +kernel)) (fun _ _ _ _ _ => pg_name (i := 2) sc_all_steps.nd rfl (Or.inl rfl)) (fun _ _ _ _ _ => pts_nil) (fun _ _ _ _ _ => (pv 2)) (fun _ _ _ _ _ => (pe_cal c_step_table hr (by decide) pass0 (pa_cons (pv 0) (pa_cons (pe_cal c_rows_of hr (by decide) pass0 (pa_cons (pv 1) (pa_cons (pv 2) pa_nil))) pa_nil))))))),
      ss_run (E := E0) (N := ["marks", "rows", "kind"]) (mb := (vRet (vX (.dK [] []) [2] (vSeqI (vC k_KINDS)) (gNE 2) (fun _ => .ret true) fun ρ acc => match acc with | .dK _ _ => eD (vVar 2) (vCall 2 m_step_table (vCons (vVar 0) (vCons (vCall 2 m_rows_of (vCons (vVar 1) (vCons (vVar 2) vNil))) vNil))) ρ acc | _ => .fail))) (ss_ret (SF.se (sf_dc (si_any (se_c (rp_KINDS T))) (sge_name 2 (by decide)) st_yes (se_var 2) (se_call (sa_cons' (se_var 0) (sa_cons' (se_call (sa_cons' (se_var 1) (sa_cons' (se_var 2) sa_nil'))) sa_nil')))))) h (by decide)⟩
theorem sc_join_table : FnScope ["marks", "rows", "told", "row", "here", "there"] ["marks", "rows"] (defScope s_join_table) := ⟨rfl, rfl, rfl, by decide +kernel, rfl, by decide +kernel, by decide +kernel⟩
def m_join_table : List T → Prog T := runF 6
  (vSeq (vSetOwn 2 (vX (.dT [] []) [4, 5] (vSeqI (vVar 0)) (gNE 4) (fun _ => .ret true) (eCl [5] (vSeqI (vVar 0)) (gNE 5) (fun _ => .ret true) (eD (vTup (vCons (vVar 4) (vCons (vVar 5) vNil))) (vTup (vCons (vVar 4) (vCons (vC (.int 0)) vNil)))))))
      (vSeq (vFor (vRev (vCons (vCB lstT (vCons (vVar 1) vNil)) vNil)) (gN 3) (vFor (vSeqI (vCall 2 m_fitting (vCons (vFld [8] [104, 101, 114, 101] (vVar 3)) (vCons (vVar 0) vNil)))) (gN 4) (vFor (vSeqI (vCall 2 m_fitting (vCons (vFld [8] [116, 104, 101, 114, 101] (vVar 3)) (vCons (vVar 0) vNil)))) (gN 5) (vPut 2 (vTup (vCons (vVar 4) (vCons (vVar 5) vNil))) (vTup (vCons (vCall 3 m_of_both (vCons (vFld [7, 8] [116, 104, 101, 110] (vVar 3)) (vCons (vVar 4) (vCons (vVar 5) vNil)))) (vCons (vFld [7, 8, 9] [97, 100, 100] (vVar 3)) vNil)))))))
      (vRet (vVar 2))))
theorem ok_join_table (T : Tx A K mg) (TW : TxW A K w) (c_fitting : CalX P w K mg base CX0 1 "_fitting" (spM (vcx A K w D) 2 m_fitting)) (c_of_both : CalX P w K mg base CX0 1 "_of_both" (spM (vcx A K w D) 3 m_of_both)) {f : Addr} {fd : FuncData} (F : Fun K "join_table" "join_table" s_join_table f fd) : FnOk P w K mg base CX0 2 f fd ["marks", "rows"] (spM (vcx A K w D) 2 m_join_table) := by
  refine F.ok sc_join_table (fun vs H Q E h => ?_) (fun cdv A' outer s H vs Q E hr h => ?_)
  · obtain ⟨_, _, hl, _⟩ := h; exact hl
  · exact ⟨_, (pss_cons (ps_setDc2 (i := 2) (own := [("here", 4), ("there", 5)]) (ws1 := [5]) (g := (gName 4)) (g1 := (gName 5)) rfl rfl (sw_dict rfl rfl rfl (by decide +kernel)) .t (hu_of hr) rfl sc_join_table.nd (show PI _ _ _ (iAny K _) from pi_any (pv 0)) (blkOk_by (own := [("here", 4), ("there", 5)]) (N := ["marks", "rows", "told", "row", "here", "there"]) (sc := defScope s_join_table) (by decide +kernel)) (by decide) (fun _ _ _ _ _ => pg_name (i := 4) sc_join_table.nd rfl (Or.inl rfl)) (fun _ _ _ _ _ => pts_nil) (fun _ _ _ _ _ => (show PI _ _ _ (iAny K _) from pi_any (pv 0))) (fun _ _ _ _ _ => pg_name (i := 5) sc_join_table.nd rfl (Or.inl rfl)) (fun _ _ _ _ _ => pts_nil) (fun _ _ _ _ _ => (pe_tup (pa_cons (pv 4) (pa_cons (pv 5) pa_nil)))) (fun _ _ _ _ _ => (pe_tup (pa_cons (pv 4) (pa_cons pe_int pa_nil)))))
      (pss_cons (ps_for PassesOwn.never rfl (show PI _ _ _ (iRev K _) from pi_reversed (by rfl) T.z_reversed (pa_cons (pe_callTy (show CallR _ _ (rLstOf K) from call_list_of) (by rfl) T.z_list (by decide +kernel) (pa_cons (pv 1) pa_nil)) pa_nil)) (pg_name (i := 3) sc_join_table.nd rfl (by first | exact .inl rfl | exact .inr rfl)) (pss_one (ps_for PassesOwn.never rfl (show PI _ _ _ (iAny K _) from pi_any (pe_cal c_fitting hr (by decide) pass0 (pa_cons (pe_fld (pv 3) rfl) (pa_cons (pv 0) pa_nil)))) (pg_name (i := 4) sc_join_table.nd rfl (by first | exact .inl rfl | exact .inr rfl)) (pss_one (ps_for PassesOwn.never rfl (show PI _ _ _ (iAny K _) from pi_any (pe_cal c_fitting hr (by decide) pass0 (pa_cons (pe_fld (pv 3) rfl) (pa_cons (pv 0) pa_nil)))) (pg_name (i := 5) sc_join_table.nd rfl (by first | exact .inl rfl | exact .inr rfl)) (pss_one (ps_dput (hu_of hr) (pv 2) (pe_tup (pa_cons (pv 4) (pa_cons (pv 5) pa_nil))) (pe_tup (pa_cons (pe_cal c_of_both hr (by decide) pass0 (pa_cons (pe_fld (pv 3) rfl) (pa_cons (pv 4) (pa_cons (pv 5) pa_nil)))) (pa_cons (pe_fld (pv 3) rfl) pa_nil))) rfl)))))))
      (pss_one (ps_ret (pv 2))))),
      ss_run (E := E0) (N := ["marks", "rows", "told", "row", "here", "there"]) (mb := (vSeq (vSetOwn 2 (vX (.dT [] []) [4, 5] (vSeqI (vVar 0)) (gNE 4) (fun _ => .ret true) (eCl [5] (vSeqI (vVar 0)) (gNE 5) (fun _ => .ret true) (eD (vTup (vCons (vVar 4) (vCons (vVar 5) vNil))) (vTup (vCons (vVar 4) (vCons (vC (.int 0)) vNil)))))))
      (vSeq (vFor (vRev (vCons (vCB lstT (vCons (vVar 1) vNil)) vNil)) (gN 3) (vFor (vSeqI (vCall 2 m_fitting (vCons (vFld [8] [104, 101, 114, 101] (vVar 3)) (vCons (vVar 0) vNil)))) (gN 4) (vFor (vSeqI (vCall 2 m_fitting (vCons (vFld [8] [116, 104, 101, 114, 101] (vVar 3)) (vCons (vVar 0) vNil)))) (gN 5) (vPut 2 (vTup (vCons (vVar 4) (vCons (vVar 5) vNil))) (vTup (vCons (vCall 3 m_of_both (vCons (vFld [7, 8] [116, 104, 101, 110] (vVar 3)) (vCons (vVar 4) (vCons (vVar 5) vNil)))) (vCons (vFld [7, 8, 9] [97, 100, 100] (vVar 3)) vNil)))))))
      (vRet (vVar 2))))) (ss_seq (ss_setOwn 2 (sf_dc2 (si_any (se_var 0)) (sge_name 4 (by decide)) st_yes (si_any (se_var 0)) (sge_name 5 (by decide)) st_yes (se_tup (sa_cons' (se_var 4) (sa_cons' (se_var 5) sa_nil'))) (se_tup (sa_cons' (se_var 4) (sa_cons' se_int sa_nil')))))
      (ss_seq (ss_for (si_rev (sa_cons' (se_cb rc_lst (sa_cons' (se_var 1) sa_nil')) sa_nil')) (sg_name 3) (ss_for (si_any (se_call (sa_cons' (se_fld lt16 (fa_here T) (se_var 3)) (sa_cons' (se_var 0) sa_nil')))) (sg_name 4) (ss_for (si_any (se_call (sa_cons' (se_fld lt15 (fa_there T) (se_var 3)) (sa_cons' (se_var 0) sa_nil')))) (sg_name 5) (ss_put 2 (se_tup (sa_cons' (se_var 4) (sa_cons' (se_var 5) sa_nil'))) (se_tup (sa_cons' (se_call (sa_cons' (se_fld lt7 (fa_then T) (se_var 3)) (sa_cons' (se_var 4) (sa_cons' (se_var 5) sa_nil')))) (sa_cons' (se_fld lt5 (fa_add T) (se_var 3)) sa_nil')))))))
      (ss_ret (se_var 2)))) h (by decide)⟩
theorem sc_part_table : FnScope ["marks", "blank", "rows", "told", "row", "mark"] ["marks", "blank", "rows"] (defScope s_part_table) := ⟨rfl, rfl, rfl, by decide +kernel, rfl, by decide +kernel, by decide +kernel⟩
def m_part_table : List T → Prog T := runF 6
  (vSeq (vSetOwn 3 (vX (.dK [] []) [5] (vSeqI (vVar 0)) (gNE 5) (fun _ => .ret true) fun ρ acc => match acc with | .dK _ _ => eD (vVar 5) (vTup (vCons (vVar 5) (vCons (vVar 1) (vCons (vC (.int 0)) (vCons (vC (.int 0)) vNil))))) ρ acc | _ => .fail))
      (vSeq (vFor (vRev (vCons (vCB lstT (vCons (vVar 2) vNil)) vNil)) (gN 4) (vFor (vSeqI (vCall 2 m_fitting (vCons (vFld [7, 9] [111, 108, 100] (vVar 4)) (vCons (vVar 0) vNil)))) (gN 5) (vPut 3 (vVar 5) (vTup (vCons (vCall 2 m_or_same (vCons (vFld [9] [108, 101, 102, 116] (vVar 4)) (vCons (vVar 5) vNil))) (vCons (vCall 2 m_or_same (vCons (vFld [9] [114, 105, 103, 104, 116] (vVar 4)) (vCons (vVar 5) vNil))) (vCons (vFld [7, 8, 9] [97, 100, 100] (vVar 4)) (vCons (vFld [9] [109, 111, 114, 101] (vVar 4)) vNil))))))))
      (vRet (vVar 3))))
theorem ok_part_table (T : Tx A K mg) (TW : TxW A K w) (c_fitting : CalX P w K mg base CX0 1 "_fitting" (spM (vcx A K w D) 2 m_fitting)) (c_or_same : CalX P w K mg base CX0 1 "_or_same" (spM (vcx A K w D) 2 m_or_same)) {f : Addr} {fd : FuncData} (F : Fun K "part_table" "part_table" s_part_table f fd) : FnOk P w K mg base CX0 2 f fd ["marks", "blank", "rows"] (spM (vcx A K w D) 3 m_part_table) := by
  refine F.ok sc_part_table (fun vs H Q E h => ?_) (fun cdv A' outer s H vs Q E hr h => ?_)
  · obtain ⟨_, _, hl, _⟩ := h; exact hl
  · exact ⟨_, (pss_cons (ps_setDc (i := 3) (own := [("mark", 5)]) (g := (gName 5)) rfl rfl (sw_dict rfl rfl rfl (by decide +kernel)) rfl sc_part_table.nd (show PI _ _ _ (iAny K _) from pi_any (pv 0)) (blkOk_by (own := [("mark", 5)]) (N := ["marks", "blank", "rows", "told", "row", "mark"]) (sc := defScope s_part_table) (by decide +kernel)) (fun _ _ _ _ _ => pg_name (i := 5) sc_part_table.nd rfl (Or.inl rfl)) (fun _ _ _ _ _ => pts_nil) (fun _ _ _ _ _ => (pv 5)) (fun _ _ _ _ _ => (pe_tup (pa_cons (pv 5) (pa_cons (pv 1) (pa_cons pe_int (pa_cons pe_int pa_nil)))))))
      (pss_cons (ps_for PassesOwn.never rfl (show PI _ _ _ (iRev K _) from pi_reversed (by rfl) T.z_reversed (pa_cons (pe_callTy (show CallR _ _ (rLstOf K) from call_list_of) (by rfl) T.z_list (by decide +kernel) (pa_cons (pv 2) pa_nil)) pa_nil)) (pg_name (i := 4) sc_part_table.nd rfl (by first | exact .inl rfl | exact .inr rfl)) (pss_one (ps_for PassesOwn.never rfl (show PI _ _ _ (iAny K _) from pi_any (pe_cal c_fitting hr (by decide) pass0 (pa_cons (pe_fld (pv 4) rfl) (pa_cons (pv 0) pa_nil)))) (pg_name (i := 5) sc_part_table.nd rfl (by first | exact .inl rfl | exact .inr rfl)) (pss_one (ps_dput (hu_of hr) (pv 3) (pv 5) (pe_tup (pa_cons (pe_cal c_or_same hr (by decide) pass0 (pa_cons (pe_fld (pv 4) rfl) (pa_cons (pv 5) pa_nil))) (pa_cons (pe_cal c_or_same hr (by decide) pass0 (pa_cons (pe_fld (pv 4) rfl) (pa_cons (pv 5) pa_nil))) (pa_cons (pe_fld (pv 4) rfl) (pa_cons (pe_fld (pv 4) rfl) pa_nil))))) rfl)))))
      (pss_one (ps_ret (pv 3))))),
      ss_run (E := E0) (N := ["marks", "blank", "rows", "told", "row", "mark"]) (mb := (vSeq (vSetOwn 3 (vX (.dK [] []) [5] (vSeqI (vVar 0)) (gNE 5) (fun _ => .ret true) fun ρ acc => match acc with | .dK _ _ => eD (vVar 5) (vTup (vCons (vVar 5) (vCons (vVar 1) (vCons (vC (.int 0)) (vCons (vC (.int 0)) vNil))))) ρ acc | _ => .fail))
      (vSeq (vFor (vRev (vCons (vCB lstT (vCons (vVar 2) vNil)) vNil)) (gN 4) (vFor (vSeqI (vCall 2 m_fitting (vCons (vFld [7, 9] [111, 108, 100] (vVar 4)) (vCons (vVar 0) vNil)))) (gN 5) (vPut 3 (vVar 5) (vTup (vCons (vCall 2 m_or_same (vCons (vFld [9] [108, 101, 102, 116] (vVar 4)) (vCons (vVar 5) vNil))) (vCons (vCall 2 m_or_same (vCons (vFld [9] [114, 105, 103, 104, 116] (vVar 4)) (vCons (vVar 5) vNil))) (vCons (vFld [7, 8, 9] [97, 100, 100] (vVar 4)) (vCons (vFld [9] [109, 111, 114, 101] (vVar 4)) vNil))))))))
      (vRet (vVar 3))))) (ss_seq (ss_setOwn 3 (sf_dc (si_any (se_var 0)) (sge_name 5 (by decide)) st_yes (se_var 5) (se_tup (sa_cons' (se_var 5) (sa_cons' (se_var 1) (sa_cons' se_int (sa_cons' se_int sa_nil')))))))
      (ss_seq (ss_for (si_rev (sa_cons' (se_cb rc_lst (sa_cons' (se_var 2) sa_nil')) sa_nil')) (sg_name 4) (ss_for (si_any (se_call (sa_cons' (se_fld lt9 (fa_old T) (se_var 4)) (sa_cons' (se_var 0) sa_nil')))) (sg_name 5) (ss_put 3 (se_var 5) (se_tup (sa_cons' (se_call (sa_cons' (se_fld lt20 (fa_left T) (se_var 4)) (sa_cons' (se_var 5) sa_nil'))) (sa_cons' (se_call (sa_cons' (se_fld lt19 (fa_right T) (se_var 4)) (sa_cons' (se_var 5) sa_nil'))) (sa_cons' (se_fld lt5 (fa_add T) (se_var 4)) (sa_cons' (se_fld lt18 (fa_more T) (se_var 4)) sa_nil'))))))))
      (ss_ret (se_var 3)))) h (by decide)⟩
theorem sc_are_marks : FnScope ["value", "mark"] ["value"] (defScope s_are_marks) := ⟨rfl, rfl, rfl, by decide +kernel, rfl, by decide +kernel, by decide +kernel⟩
def m_are_marks : List T → Prog T := runF 2
  (vSeq (vIfS (vOrT (vNotT (vT (vCall 1 m_is_sequence (vCons (vVar 0) vNil)))) (vNotT (vT (vCB (allT fun bs => bs.all id) (vCons (vLc [1] (vSeqI (vVar 0)) (gNE 1) (fun _ => .ret true) (vCall 1 m_is_name (vCons (vVar 1) vNil))) vNil))))) (vRet (vC (.bl false))) vNext)
      (vRet (vAndV (v2 gtT (vCB lenT' (vCons (vVar 0) vNil)) (vC (.int 0))) (vCall 1 m_all_differ (vCons (vVar 0) vNil)))))
theorem ok_are_marks (T : Tx A K mg) (TW : TxW A K w) (c_is_sequence : CalX P w K mg base CX0 1 "is_sequence" (spM (vcx A K w D) 1 m_is_sequence)) (c_is_name : CalX P w K mg base CX0 1 "is_name" (spM (vcx A K w D) 1 m_is_name)) (c_all_differ : CalX P w K mg base CX0 1 "all_differ" (spM (vcx A K w D) 1 m_all_differ)) {f : Addr} {fd : FuncData} (F : Fun K "_are_marks" "_are_marks" s_are_marks f fd) : FnOk P w K mg base CX0 2 f fd ["value"] (spM (vcx A K w D) 1 m_are_marks) := by
  refine F.ok sc_are_marks (fun vs H Q E h => ?_) (fun cdv A' outer s H vs Q E hr h => ?_)
  · obtain ⟨_, _, hl, _⟩ := h; exact hl
  · exact ⟨_, (pss_cons (ps_if (PW.pt (pw_or (pt_not (pt_val (pe_cal c_is_sequence hr (by decide) pass0 (pa_cons (pv 0) pa_nil)))) (pw_or1 (pt_not (pt_val (pe_callB (show CallR _ _ (rAll K) from cr_all rfl) (by rfl) T.z_all (by decide +kernel) (pa_cons (pe_lc (own := [("mark", 1)]) (g := (gName 1)) rfl sc_are_marks.nd (show PI _ _ _ (iAny K _) from pi_any (pv 0)) (blkOk_by (own := [("mark", 1)]) (N := ["value", "mark"]) (sc := defScope s_are_marks) (by decide +kernel)) (fun _ _ _ _ _ => pg_name (i := 1) sc_are_marks.nd rfl (Or.inl rfl)) (fun _ _ _ _ _ => pts_nil) (fun _ _ _ _ _ => (pe_cal c_is_name hr (by decide) pass0 (pa_cons (pv 1) pa_nil)))) pa_nil))))))) (pss_one (ps_ret pe_bl)) pss_nil)
      (pss_one (ps_ret (pe_and (pe_cmpR op_gt (pe_callB (show CallR _ _ (rLenAny K) from call_lenAny) (by rfl) T.z_len (by decide +kernel) (pa_cons (pv 0) pa_nil)) pe_int (nomark _)) (pe_one (pe_cal c_all_differ hr (by decide) pass0 (pa_cons (pv 0) pa_nil))))))),
      ss_run (E := E0) (N := ["value", "mark"]) (mb := (vSeq (vIfS (vOrT (vNotT (vT (vCall 1 m_is_sequence (vCons (vVar 0) vNil)))) (vNotT (vT (vCB (allT fun bs => bs.all id) (vCons (vLc [1] (vSeqI (vVar 0)) (gNE 1) (fun _ => .ret true) (vCall 1 m_is_name (vCons (vVar 1) vNil))) vNil))))) (vRet (vC (.bl false))) vNext)
      (vRet (vAndV (v2 gtT (vCB lenT' (vCons (vVar 0) vNil)) (vC (.int 0))) (vCall 1 m_all_differ (vCons (vVar 0) vNil)))))) (ss_seq (ss_if (st_or (st_not (st_B (se_call (sa_cons' (se_var 0) sa_nil')))) (st_not (st_B (se_cb rc_all (sa_cons' (SF.se (sf_lc (si_any (se_var 0)) (sge_name 1 (by decide)) st_yes (se_call (sa_cons' (se_var 1) sa_nil')))) sa_nil'))))) (ss_ret se_bl) ss_next)
      (ss_ret (se_andV (se_op ro_gt (se_cb rc_len (sa_cons' (se_var 0) sa_nil')) se_int) (se_call (sa_cons' (se_var 0) sa_nil'))))) h (by decide)⟩
theorem sc_are_words_of : FnScope ["value", "words", "word"] ["value", "words"] (defScope s_are_words_of) := ⟨rfl, rfl, rfl, by decide +kernel, rfl, by decide +kernel, by decide +kernel⟩
def m_are_words_of : List T → Prog T := runF 3
  (vSeq (vIfS (vOrT (vNotT (vT (vCall 1 m_is_sequence (vCons (vVar 0) vNil)))) (vNotT (vT (vCB (allT fun bs => bs.all id) (vCons (vLc [2] (vSeqI (vVar 0)) (gNE 2) (fun _ => .ret true) (v2 (inF false) (vVar 2) (vVar 1))) vNil))))) (vRet (vC (.bl false))) vNext)
      (vRet (vCall 1 m_all_differ (vCons (vVar 0) vNil))))
theorem ok_are_words_of (T : Tx A K mg) (TW : TxW A K w) (c_is_sequence : CalX P w K mg base CX0 1 "is_sequence" (spM (vcx A K w D) 1 m_is_sequence)) (c_all_differ : CalX P w K mg base CX0 1 "all_differ" (spM (vcx A K w D) 1 m_all_differ)) {f : Addr} {fd : FuncData} (F : Fun K "_are_words_of" "_are_words_of" s_are_words_of f fd) : FnOk P w K mg base CX0 2 f fd ["value", "words"] (spM (vcx A K w D) 2 m_are_words_of) := by
  refine F.ok sc_are_words_of (fun vs H Q E h => ?_) (fun cdv A' outer s H vs Q E hr h => ?_)
  · obtain ⟨_, _, hl, _⟩ := h; exact hl
  · exact ⟨_, (pss_cons (ps_if (PW.pt (pw_or (pt_not (pt_val (pe_cal c_is_sequence hr (by decide) pass0 (pa_cons (pv 0) pa_nil)))) (pw_or1 (pt_not (pt_val (pe_callB (show CallR _ _ (rAll K) from cr_all rfl) (by rfl) T.z_all (by decide +kernel) (pa_cons (pe_lc (own := [("word", 2)]) (g := (gName 2)) rfl sc_are_words_of.nd (show PI _ _ _ (iAny K _) from pi_any (pv 0)) (blkOk_by (own := [("word", 2)]) (N := ["value", "words", "word"]) (sc := defScope s_are_words_of) (by decide +kernel)) (fun _ _ _ _ _ => pg_name (i := 2) sc_are_words_of.nd rfl (Or.inl rfl)) (fun _ _ _ _ _ => pts_nil) (fun _ _ _ _ _ => (pe_cmpR (show OpR _ _ (rIn K false) from op_in_seq) (pv 2) (pv 1) (by rfl)))) pa_nil))))))) (pss_one (ps_ret pe_bl)) pss_nil)
      (pss_one (ps_ret (pe_cal c_all_differ hr (by decide) pass0 (pa_cons (pv 0) pa_nil))))),
      ss_run (E := E0) (N := ["value", "words", "word"]) (mb := (vSeq (vIfS (vOrT (vNotT (vT (vCall 1 m_is_sequence (vCons (vVar 0) vNil)))) (vNotT (vT (vCB (allT fun bs => bs.all id) (vCons (vLc [2] (vSeqI (vVar 0)) (gNE 2) (fun _ => .ret true) (v2 (inF false) (vVar 2) (vVar 1))) vNil))))) (vRet (vC (.bl false))) vNext)
      (vRet (vCall 1 m_all_differ (vCons (vVar 0) vNil))))) (ss_seq (ss_if (st_or (st_not (st_B (se_call (sa_cons' (se_var 0) sa_nil')))) (st_not (st_B (se_cb rc_all (sa_cons' (SF.se (sf_lc (si_any (se_var 0)) (sge_name 2 (by decide)) st_yes (se_op (ro_inF false) (se_var 2) (se_var 1)))) sa_nil'))))) (ss_ret se_bl) ss_next)
      (ss_ret (se_call (sa_cons' (se_var 0) sa_nil')))) h (by decide)⟩
theorem sc_refuse_wrong_books : FnScope ["marks", "counted", "keeps", "rows", "row", "mark"] ["marks", "counted", "keeps", "rows"] (defScope s_refuse_wrong_books) := ⟨rfl, rfl, rfl, by decide +kernel, rfl, by decide +kernel, by decide +kernel⟩
def m_refuse_wrong_books : List T → Prog T := runF 6
  (vSeq (vIfS (vNotT (vT (vCall 1 m_are_marks (vCons (vVar 0) vNil)))) (fun _ => .fail) vNext)
      (vSeq (vIfS (vNotT (vT (vCall 2 m_are_words_of (vCons (vVar 1) (vCons (vSl (vVar 0) (vPart (vC (.int 1))) vNoPart) vNil))))) (fun _ => .fail) vNext)
      (vSeq (vIfS (vNotT (vT (vCall 2 m_are_words_of (vCons (vVar 2) (vCons (vC k_EDITS) vNil))))) (fun _ => .fail) vNext)
      (vSeq (vIfS (vOrT (vNotT (vT (vCall 1 m_is_sequence (vCons (vVar 3) vNil)))) (vNotT (vT (vCB (allT fun bs => bs.all id) (vCons (vLc [4] (vSeqI (vVar 3)) (gNE 4) (fun _ => .ret true) (vCB (isiO 6 isT_Row) (vCons (vVar 4) (vCons (vC (.cl 6)) vNil)))) vNil))))) (fun _ => .fail) vNext)
      (vIfS (vNotT (vT (vCB (allT fun bs => bs.all id) (vCons (vX (.lst []) [4, 5] (vSeqI (vVar 3)) (gNE 4) (fun _ => .ret true) (eCl [5] (vSeqI (vMethV 4 [7, 8, 9] [110, 97, 109, 101, 100] 1 m_Row_named vNil)) (gNE 5) (fun _ => .ret true) (eL (v2 (inF false) (vVar 5) (vVar 0))))) vNil)))) (fun _ => .fail) vNext)))))
theorem ok_refuse_wrong_books (T : Tx A K mg) (TW : TxW A K w) (c_are_marks : CalX P w K mg base CX0 2 "_are_marks" (spM (vcx A K w D) 1 m_are_marks)) (c_are_words_of : CalX P w K mg base CX0 2 "_are_words_of" (spM (vcx A K w D) 2 m_are_words_of)) (c_is_sequence : CalX P w K mg base CX0 1 "is_sequence" (spM (vcx A K w D) 1 m_is_sequence)) {fd_Row_named : FuncData} (F_Row_named : FnOk P w K mg base CX0 2 A.f_Row_named fd_Row_named ["self"] (spM (vcx A K w D) 1 m_Row_named)) (b_Row_named : Binds K fd_Row_named ["self"] []) {f : Addr} {fd : FuncData} (F : Fun K "_refuse_wrong" "_refuse_wrong" s_refuse_wrong_books f fd) : FnOk P w K mg base CX0 3 f fd ["marks", "counted", "keeps", "rows"] (spM (vcx A K w D) 4 m_refuse_wrong_books) := by
  refine F.ok sc_refuse_wrong_books (fun vs H Q E h => ?_) (fun cdv A' outer s H vs Q E hr h => ?_)
  · obtain ⟨_, _, hl, _⟩ := h; exact hl
  · exact ⟨_, (pss_cons (ps_if (pt_not (pt_val (pe_cal c_are_marks hr (by decide) pass0 (pa_cons (pv 0) pa_nil)))) (pss_one ps_never) pss_nil)
      (pss_cons (ps_if (pt_not (pt_val (pe_cal c_are_words_of hr (by decide) pass0 (pa_cons (pv 1) (pa_cons (pe_slice (show SlR _ (rSlAny K) from sl_any) (pv 0) (po_some pe_int) po_none) pa_nil))))) (pss_one ps_never) pss_nil)
      (pss_cons (ps_if (pt_not (pt_val (pe_cal c_are_words_of hr (by decide) pass0 (pa_cons (pv 2) (pa_cons (pe_glob (v := .ref A.EDITS) rfl T.g_EDITS rfl) pa_nil))))) (pss_one ps_never) pss_nil)
      (pss_cons (ps_if (PW.pt (pw_or (pt_not (pt_val (pe_cal c_is_sequence hr (by decide) pass0 (pa_cons (pv 3) pa_nil)))) (pw_or1 (pt_not (pt_val (pe_callB (show CallR _ _ (rAll K) from cr_all rfl) (by rfl) T.z_all (by decide +kernel) (pa_cons (pe_lc (own := [("row", 4)]) (g := (gName 4)) rfl sc_refuse_wrong_books.nd (show PI _ _ _ (iAny K _) from pi_any (pv 3)) (blkOk_by (own := [("row", 4)]) (N := ["marks", "counted", "keeps", "rows", "row", "mark"]) (sc := defScope s_refuse_wrong_books) (by decide +kernel)) (fun _ _ _ _ _ => pg_name (i := 4) sc_refuse_wrong_books.nd rfl (Or.inl rfl)) (fun _ _ _ _ _ => pts_nil) (fun _ _ _ _ _ => (pe_callB (show CallR _ _ (rIsi K) from call_isi) (by rfl) T.z_isinstance (by decide +kernel) (pa_cons (pv 4) (pa_cons (pe_glob (v := .ref A.Row) rfl T.g_Row rfl) pa_nil))))) pa_nil))))))) (pss_one ps_never) pss_nil)
      (pss_one (ps_if (pt_not (pt_val (pe_callB (show CallR _ _ (rAll K) from cr_all rfl) (by rfl) T.z_all (by decide +kernel) (pa_cons (pe_lc2 (own := [("row", 4), ("mark", 5)]) (vs1 := [5]) (g := (gName 4)) (g1 := (gName 5)) rfl sc_refuse_wrong_books.nd (show PI _ _ _ (iAny K _) from pi_any (pv 3)) (blkOk_by (own := [("row", 4), ("mark", 5)]) (N := ["marks", "counted", "keeps", "rows", "row", "mark"]) (sc := defScope s_refuse_wrong_books) (by decide +kernel)) (by decide) (fun _ _ _ _ _ => pg_name (i := 4) sc_refuse_wrong_books.nd rfl (Or.inl rfl)) (fun _ _ _ _ _ => pts_nil) (fun _ _ _ _ _ => (show PI _ _ _ (iAny K _) from pi_any (pe_or (pe_meth0 (pv 4) T.o_Step.cls ⟨T.m_Step_named, T.i_f_Row_named, T.kp_Row_named⟩ F_Row_named (hr.mono (by decide)) b_Row_named .nil pass0) (pe_or (pe_meth0 (pv 4) T.o_Join.cls ⟨T.m_Join_named, T.i_f_Row_named, T.kp_Row_named⟩ F_Row_named (hr.mono (by decide)) b_Row_named .nil pass0) (pe_meth0 (pv 4) T.o_Part.cls ⟨T.m_Part_named, T.i_f_Row_named, T.kp_Row_named⟩ F_Row_named (hr.mono (by decide)) b_Row_named .nil pass0))))) (fun _ _ _ _ _ => pg_name (i := 5) sc_refuse_wrong_books.nd rfl (Or.inl rfl)) (fun _ _ _ _ _ => pts_nil) (fun _ _ _ _ _ => (pe_cmpR (show OpR _ _ (rIn K false) from op_in_seq) (pv 5) (pv 0) (by rfl)))) pa_nil)))) (pss_one ps_never) pss_nil)))))),
      ss_run (E := E0) (N := ["marks", "counted", "keeps", "rows", "row", "mark"]) (mb := (vSeq (vIfS (vNotT (vT (vCall 1 m_are_marks (vCons (vVar 0) vNil)))) (fun _ => .fail) vNext)
      (vSeq (vIfS (vNotT (vT (vCall 2 m_are_words_of (vCons (vVar 1) (vCons (vSl (vVar 0) (vPart (vC (.int 1))) vNoPart) vNil))))) (fun _ => .fail) vNext)
      (vSeq (vIfS (vNotT (vT (vCall 2 m_are_words_of (vCons (vVar 2) (vCons (vC k_EDITS) vNil))))) (fun _ => .fail) vNext)
      (vSeq (vIfS (vOrT (vNotT (vT (vCall 1 m_is_sequence (vCons (vVar 3) vNil)))) (vNotT (vT (vCB (allT fun bs => bs.all id) (vCons (vLc [4] (vSeqI (vVar 3)) (gNE 4) (fun _ => .ret true) (vCB (isiO 6 isT_Row) (vCons (vVar 4) (vCons (vC (.cl 6)) vNil)))) vNil))))) (fun _ => .fail) vNext)
      (vIfS (vNotT (vT (vCB (allT fun bs => bs.all id) (vCons (vX (.lst []) [4, 5] (vSeqI (vVar 3)) (gNE 4) (fun _ => .ret true) (eCl [5] (vSeqI (vMethV 4 [7, 8, 9] [110, 97, 109, 101, 100] 1 m_Row_named vNil)) (gNE 5) (fun _ => .ret true) (eL (v2 (inF false) (vVar 5) (vVar 0))))) vNil)))) (fun _ => .fail) vNext)))))) (ss_seq (ss_if (st_not (st_B (se_call (sa_cons' (se_var 0) sa_nil')))) ss_never ss_next)
      (ss_seq (ss_if (st_not (st_B (se_call (sa_cons' (se_var 1) (sa_cons' (se_sl (se_var 0) (so_part se_int) so_none) sa_nil'))))) ss_never ss_next)
      (ss_seq (ss_if (st_not (st_B (se_call (sa_cons' (se_var 2) (sa_cons' (se_c (rp_EDITS T)) sa_nil'))))) ss_never ss_next)
      (ss_seq (ss_if (st_or (st_not (st_B (se_call (sa_cons' (se_var 3) sa_nil')))) (st_not (st_B (se_cb rc_all (sa_cons' (SF.se (sf_lc (si_any (se_var 3)) (sge_name 4 (by decide)) st_yes (se_cb (rc_isiO (isi_Row T)) (sa_cons' (se_var 4) (sa_cons' (se_cl 6 rfl) sa_nil'))))) sa_nil'))))) ss_never ss_next)
      (ss_if (st_not (st_B (se_cb rc_all (sa_cons' (SF.se (sf_lc2 (si_any (se_var 3)) (sge_name 4 (by decide)) st_yes (si_any (se_methU (se_methV 4 lt22 rfl sa_nil') (se_methU (se_methV 4 lt22 rfl sa_nil') (se_methV 4 lt22 rfl sa_nil')))) (sge_name 5 (by decide)) st_yes (se_op (ro_inF false) (se_var 5) (se_var 0)))) sa_nil')))) ss_never ss_next))))) h (by decide)⟩
theorem sc_Book_init : FnScope ["self", "marks", "counted", "keeps", "rows", "mark"] ["self", "marks", "counted", "keeps", "rows"] (defScope s_Book_init) := ⟨rfl, rfl, rfl, by decide +kernel, rfl, by decide +kernel, by decide +kernel⟩
def m_Book_init : Nat → List (List Nat) → List T → List T → Prog (List (List Nat) × List T) := runI 6
  (vSeq (vDrop (vCall 4 m_refuse_wrong_books (vCons (vVar 1) (vCons (vVar 2) (vCons (vVar 3) (vCons (vVar 4) vNil))))))
      (vSeq (vSetFS 0 [10] [109, 97, 114, 107, 115] (vCB tupT (vCons (vVar 1) vNil)))
      (vSeq (vSetFS 0 [10] [99, 111, 117, 110, 116, 101, 100] (vCB tupT (vCons (vLc [5] (vSeqI (vVar 1)) (gNE 5) (vT (v2 (inF false) (vVar 5) (vVar 2))) (vVar 5)) vNil)))
      (vSeq (vSetFS 0 [10] [107, 101, 101, 112, 115] (vCB tupT (vCons (vCB sortedT (vCons (vVar 3) vNil)) vNil)))
      (vSeq (vSetFS 0 [10] [114, 111, 119, 115] (vCB tupT (vCons (vVar 4) vNil)))
      (vSeq (vSetFS 0 [10] [98, 108, 97, 110, 107] (v2 ixT (vVar 1) (vC (.int 0))))
      (vSeq (vSetFS 0 [10] [119, 111, 114, 116, 104] (vX (.dK [] []) [5] (vSeqI (vVar 1)) (gNE 5) (fun _ => .ret true) fun ρ acc => match acc with | .dK _ _ => eD (vVar 5) (vIf (vT (v2 (inF false) (vVar 5) (vVar 2))) (vC (.int 1)) (vC (.int 0))) ρ acc | _ => .fail))
      (vSeq (vSetF 0 [10] [115, 116, 101, 112, 115] (vCall 2 m_all_steps (vCons (vFld [10] [109, 97, 114, 107, 115] (vVar 0)) (vCons (vVar 4) vNil))))
      (vSeq (vSetF 0 [10] [106, 111, 105, 110, 115] (vCall 2 m_join_table (vCons (vFld [10] [109, 97, 114, 107, 115] (vVar 0)) (vCons (vCall 2 m_rows_of (vCons (vVar 4) (vCons (vC (.str [106, 111, 105, 110])) vNil))) vNil))))
      (vSetF 0 [10] [112, 97, 114, 116, 115] (vCall 3 m_part_table (vCons (vFld [10] [109, 97, 114, 107, 115] (vVar 0)) (vCons (vFld [10] [98, 108, 97, 110, 107] (vVar 0)) (vCons (vCall 2 m_rows_of (vCons (vVar 4) (vCons (vC (.str [112, 97, 114, 116])) vNil))) vNil))))))))))))))
theorem ok_Book_init (T : Tx A K mg) (TW : TxW A K w) (c_refuse_wrong_books : CalX P w K mg base CX0 3 "refuse_wrong_books" (spM (vcx A K w D) 4 m_refuse_wrong_books)) (c_all_steps : CalX P w K mg base CX0 3 "all_steps" (spM (vcx A K w D) 2 m_all_steps)) (c_rows_of : CalX P w K mg base CX0 1 "rows_of" (spM (vcx A K w D) 2 m_rows_of)) (c_join_table : CalX P w K mg base CX0 2 "join_table" (spM (vcx A K w D) 2 m_join_table)) (c_part_table : CalX P w K mg base CX0 2 "part_table" (spM (vcx A K w D) 3 m_part_table)) {f : Addr} {fd : FuncData} (F : Fun K "__init__" "Book.__init__" s_Book_init f fd) : FnOk P w K mg base CX0 4 f fd ["self", "marks", "counted", "keeps", "rows"] (spI (vcx A K w D) 5 [10] m_Book_init) := by
  refine F.ok sc_Book_init (fun vs H Q E h => ?_) (fun cdv A' outer s H vs Q E hr h => ?_)
  · obtain ⟨_, _, _, _, _, _, _, _, _, _, hl, _⟩ := h; exact hl
  · exact ⟨_, (pss_cons (ps_expr (pe_cal c_refuse_wrong_books hr (by decide) pass0 (pa_cons (pv 1) (pa_cons (pv 2) (pa_cons (pv 3) (pa_cons (pv 4) pa_nil))))))
      (pss_cons (ps_fld (pv 0) (pe_callTy (show CallR _ _ (rTupOf K) from call_tuple_of) (by rfl) T.z_tuple (by decide +kernel) (pa_cons (pv 1) pa_nil)) rfl)
      (pss_cons (ps_fld (pv 0) (pe_callTy (show CallR _ _ (rTupOf K) from call_tuple_of) (by rfl) T.z_tuple (by decide +kernel) (pa_cons (pe_lc (own := [("mark", 5)]) (g := (gName 5)) rfl sc_Book_init.nd (show PI _ _ _ (iAny K _) from pi_any (pv 1)) (blkOk_by (own := [("mark", 5)]) (N := ["self", "marks", "counted", "keeps", "rows", "mark"]) (sc := defScope s_Book_init) (by decide +kernel)) (fun _ _ _ _ _ => pg_name (i := 5) sc_Book_init.nd rfl (Or.inl rfl)) (fun _ _ _ _ _ => pts_one (pt_cmpR (show OpR _ _ (rIn K false) from op_in_seq) (pv 5) (pv 2) (by rfl))) (fun _ _ _ _ _ => (pv 5))) pa_nil)) rfl)
      (pss_cons (ps_fld (pv 0) (pe_callTy (show CallR _ _ (rTupOf K) from call_tuple_of) (by rfl) T.z_tuple (by decide +kernel) (pa_cons (pe_callB (show CallR _ _ (rSortAny K) from call_sortAny) (by rfl) T.z_sorted (by decide +kernel) (pa_cons (pv 3) pa_nil)) pa_nil)) rfl)
      (pss_cons (ps_fld (pv 0) (pe_callTy (show CallR _ _ (rTupOf K) from call_tuple_of) (by rfl) T.z_tuple (by decide +kernel) (pa_cons (pv 4) pa_nil)) rfl)
      (pss_cons (ps_fld (pv 0) (pe_ix (show IxR _ (rIx K) from ix_seq) (pv 1) pe_int (fun _ _ => rfl)) rfl)
      (pss_cons (ps_fld (pv 0) (pe_dc (own := [("mark", 5)]) (g := (gName 5)) rfl sc_Book_init.nd (show PI _ _ _ (iAny K _) from pi_any (pv 1)) (blkOk_by (own := [("mark", 5)]) (N := ["self", "marks", "counted", "keeps", "rows", "mark"]) (sc := defScope s_Book_init) (by decide +kernel)) (fun _ _ _ _ _ => pg_name (i := 5) sc_Book_init.nd rfl (Or.inl rfl)) (fun _ _ _ _ _ => pts_nil) (fun _ _ _ _ _ => (pv 5)) (fun _ _ _ _ _ => (pe_ifExp (pt_cmpR (show OpR _ _ (rIn K false) from op_in_seq) (pv 5) (pv 2) (by rfl)) pe_int pe_int))) rfl)
      (pss_cons (ps_fld (pv 0) (pe_cal c_all_steps hr (by decide) pass0 (pa_cons (pe_fld (pv 0) rfl) (pa_cons (pv 4) pa_nil))) rfl)
      (pss_cons (ps_fld (pv 0) (pe_cal c_join_table hr (by decide) pass0 (pa_cons (pe_fld (pv 0) rfl) (pa_cons (pe_cal c_rows_of hr (by decide) pass0 (pa_cons (pv 4) (pa_cons pe_str pa_nil))) pa_nil))) rfl)
      (pss_one (ps_fld (pv 0) (pe_cal c_part_table hr (by decide) pass0 (pa_cons (pe_fld (pv 0) rfl) (pa_cons (pe_fld (pv 0) rfl) (pa_cons (pe_cal c_rows_of hr (by decide) pass0 (pa_cons (pv 4) (pa_cons pe_str pa_nil))) pa_nil)))) rfl))))))))))),
      ss_runI (E := E0) (N := ["self", "marks", "counted", "keeps", "rows", "mark"]) (mb := (vSeq (vDrop (vCall 4 m_refuse_wrong_books (vCons (vVar 1) (vCons (vVar 2) (vCons (vVar 3) (vCons (vVar 4) vNil))))))
      (vSeq (vSetFS 0 [10] [109, 97, 114, 107, 115] (vCB tupT (vCons (vVar 1) vNil)))
      (vSeq (vSetFS 0 [10] [99, 111, 117, 110, 116, 101, 100] (vCB tupT (vCons (vLc [5] (vSeqI (vVar 1)) (gNE 5) (vT (v2 (inF false) (vVar 5) (vVar 2))) (vVar 5)) vNil)))
      (vSeq (vSetFS 0 [10] [107, 101, 101, 112, 115] (vCB tupT (vCons (vCB sortedT (vCons (vVar 3) vNil)) vNil)))
      (vSeq (vSetFS 0 [10] [114, 111, 119, 115] (vCB tupT (vCons (vVar 4) vNil)))
      (vSeq (vSetFS 0 [10] [98, 108, 97, 110, 107] (v2 ixT (vVar 1) (vC (.int 0))))
      (vSeq (vSetFS 0 [10] [119, 111, 114, 116, 104] (vX (.dK [] []) [5] (vSeqI (vVar 1)) (gNE 5) (fun _ => .ret true) fun ρ acc => match acc with | .dK _ _ => eD (vVar 5) (vIf (vT (v2 (inF false) (vVar 5) (vVar 2))) (vC (.int 1)) (vC (.int 0))) ρ acc | _ => .fail))
      (vSeq (vSetF 0 [10] [115, 116, 101, 112, 115] (vCall 2 m_all_steps (vCons (vFld [10] [109, 97, 114, 107, 115] (vVar 0)) (vCons (vVar 4) vNil))))
      (vSeq (vSetF 0 [10] [106, 111, 105, 110, 115] (vCall 2 m_join_table (vCons (vFld [10] [109, 97, 114, 107, 115] (vVar 0)) (vCons (vCall 2 m_rows_of (vCons (vVar 4) (vCons (vC (.str [106, 111, 105, 110])) vNil))) vNil))))
      (vSetF 0 [10] [112, 97, 114, 116, 115] (vCall 3 m_part_table (vCons (vFld [10] [109, 97, 114, 107, 115] (vVar 0)) (vCons (vFld [10] [98, 108, 97, 110, 107] (vVar 0)) (vCons (vCall 2 m_rows_of (vCons (vVar 4) (vCons (vC (.str [112, 97, 114, 116])) vNil))) vNil))))))))))))))) (ss_seq (ss_drop (se_call (sa_cons' (se_var 1) (sa_cons' (se_var 2) (sa_cons' (se_var 3) (sa_cons' (se_var 4) sa_nil'))))))
      (ss_seq (ss_setFS 0 lt23 (fi_Book_marks T) (se_cb rc_tup (sa_cons' (se_var 1) sa_nil')))
      (ss_seq (ss_setFS 0 lt24 (fi_Book_counted T) (se_cb rc_tup (sa_cons' (SF.se (sf_lc (si_any (se_var 1)) (sge_name 5 (by decide)) (st_test (se_op (ro_inF false) (se_var 5) (se_var 2))) (se_var 5))) sa_nil')))
      (ss_seq (ss_setFS 0 lt25 (fi_Book_keeps T) (se_cb rc_tup (sa_cons' (se_cb rc_sort (sa_cons' (se_var 3) sa_nil')) sa_nil')))
      (ss_seq (ss_setFS 0 lt26 (fi_Book_rows T) (se_cb rc_tup (sa_cons' (se_var 4) sa_nil')))
      (ss_seq (ss_setFS 0 lt27 (fi_Book_blank T) (se_op ro_ix (se_var 1) se_int))
      (ss_seq (ss_setFS 0 lt28 (fi_Book_worth T) (SF.se (sf_dc (si_any (se_var 1)) (sge_name 5 (by decide)) st_yes (se_var 5) (se_if (st_test (se_op (ro_inF false) (se_var 5) (se_var 2))) se_int se_int))))
      (ss_seq (ss_setF 0 lt29 (fi_Book_steps T) (se_call (sa_cons' (se_fld lt23 (fa_marks T) (se_var 0)) (sa_cons' (se_var 4) sa_nil'))))
      (ss_seq (ss_setF 0 lt30 (fi_Book_joins T) (se_call (sa_cons' (se_fld lt23 (fa_marks T) (se_var 0)) (sa_cons' (se_call (sa_cons' (se_var 4) (sa_cons' (se_str lt17) sa_nil'))) sa_nil'))))
      (ss_setF 0 lt31 (fi_Book_parts T) (se_call (sa_cons' (se_fld lt23 (fa_marks T) (se_var 0)) (sa_cons' (se_fld lt27 (fa_blank T) (se_var 0)) (sa_cons' (se_call (sa_cons' (se_var 4) (sa_cons' (se_str lt21) sa_nil'))) sa_nil')))))))))))))) h (by decide)⟩
theorem sc_lines : FnScope ["book", "marks", "counted", "keeps", "row"] ["book"] (defScope s_lines) := ⟨rfl, rfl, rfl, by decide +kernel, rfl, by decide +kernel, by decide +kernel⟩
def m_lines : List T → Prog T := runF 5
  (vSeq (vSetS 1 (vSM joinT (vC (.str [32])) (vCons (vLst (vCons (vC (.str [109, 97, 114, 107, 115])) (vStar (vFld [10] [109, 97, 114, 107, 115] (vVar 0)) vNil))) vNil)))
      (vSeq (vSetS 2 (vSM joinT (vC (.str [32])) (vCons (vLst (vCons (vC (.str [99, 111, 117, 110, 116, 101, 100])) (vStar (vFld [10] [99, 111, 117, 110, 116, 101, 100] (vVar 0)) vNil))) vNil)))
      (vSeq (vSetS 3 (vSM joinT (vC (.str [32])) (vCons (vLst (vCons (vC (.str [107, 101, 101, 112, 115])) (vStar (vFld [10] [107, 101, 101, 112, 115] (vVar 0)) vNil))) vNil)))
      (vRet (vLst (vCons (vVar 1) (vCons (vVar 2) (vCons (vVar 3) (vStar (vLc [4] (vSeqI (vFld [10] [114, 111, 119, 115] (vVar 0))) (gNE 4) (fun _ => .ret true) (vCBP (strOwnP 7 1 m_Row_str (strOwnP 8 1 m_Row_str (strOwnP 9 1 m_Row_str (fun ts => opt (strT ts))))) (vCons (vVar 4) vNil))) vNil)))))))))
theorem ok_lines (T : Tx A K mg) (TW : TxW A K w) {fd_Row_str : FuncData} (F_Row_str : FnOk P w K mg base CX0 1 A.f_Row_str fd_Row_str ["self"] (spM (vcx A K w D) 1 m_Row_str)) (b_Row_str : Binds K fd_Row_str ["self"] []) {f : Addr} {fd : FuncData} (F : Fun K "_lines" "_lines" s_lines f fd) : FnOk P w K mg base CX0 4 f fd ["book"] (spM (vcx A K w D) 1 m_lines) := by
  refine F.ok sc_lines (fun vs H Q E h => ?_) (fun cdv A' outer s H vs Q E hr h => ?_)
  · obtain ⟨_, _, hl, _⟩ := h; exact hl
  · exact ⟨_, (pss_cons (ps_set (i := 1) sc_lines.nd rfl (by first | exact .inl rfl | exact .inr rfl) (pe_bm PySem.F.plainAttrs_str PySem.F.slot_str_join PySem.F.type_str_join (show MtR _ _ (rJoin K) from mt_join) pe_str (pa_cons (pe_lst (pa_cons pe_str (StX.pa_star (pe_fld (pv 0) rfl) pa_nil))) pa_nil)))
      (pss_cons (ps_set (i := 2) sc_lines.nd rfl (by first | exact .inl rfl | exact .inr rfl) (pe_bm PySem.F.plainAttrs_str PySem.F.slot_str_join PySem.F.type_str_join (show MtR _ _ (rJoin K) from mt_join) pe_str (pa_cons (pe_lst (pa_cons pe_str (StX.pa_star (pe_fld (pv 0) rfl) pa_nil))) pa_nil)))
      (pss_cons (ps_set (i := 3) sc_lines.nd rfl (by first | exact .inl rfl | exact .inr rfl) (pe_bm PySem.F.plainAttrs_str PySem.F.slot_str_join PySem.F.type_str_join (show MtR _ _ (rJoin K) from mt_join) pe_str (pa_cons (pe_lst (pa_cons pe_str (StX.pa_star (pe_fld (pv 0) rfl) pa_nil))) pa_nil)))
      (pss_one (ps_ret (pe_lst (pa_cons (pv 1) (pa_cons (pv 2) (pa_cons (pv 3) (StX.pa_star (pe_lc (own := [("row", 4)]) (g := (gName 4)) rfl sc_lines.nd (show PI _ _ _ (iAny K _) from pi_any (pe_fld (pv 0) rfl)) (blkOk_by (own := [("row", 4)]) (N := ["book", "marks", "counted", "keeps", "row"]) (sc := defScope s_lines) (by decide +kernel)) (fun _ _ _ _ _ => pg_name (i := 4) sc_lines.nd rfl (Or.inl rfl)) (fun _ _ _ _ _ => pts_nil) (fun _ _ _ _ _ => (pe_callTy (CallR.or (call_str_own (E := E0) (C := A.Step) ⟨T.m_Step_str, T.i_f_Row_str⟩ F_Row_str (hr.mono (by decide)) b_Row_str pass0) (CallR.or (call_str_own (E := E0) (C := A.Join) ⟨T.m_Join_str, T.i_f_Row_str⟩ F_Row_str (hr.mono (by decide)) b_Row_str pass0) (CallR.or (call_str_own (E := E0) (C := A.Part) ⟨T.m_Part_str, T.i_f_Row_str⟩ F_Row_str (hr.mono (by decide)) b_Row_str pass0) call_str_is))) (by rfl) T.z_str (by decide +kernel) (pa_cons (pv 4) pa_nil)))) pa_nil)))))))))),
      ss_run (E := E0) (N := ["book", "marks", "counted", "keeps", "row"]) (mb := (vSeq (vSetS 1 (vSM joinT (vC (.str [32])) (vCons (vLst (vCons (vC (.str [109, 97, 114, 107, 115])) (vStar (vFld [10] [109, 97, 114, 107, 115] (vVar 0)) vNil))) vNil)))
      (vSeq (vSetS 2 (vSM joinT (vC (.str [32])) (vCons (vLst (vCons (vC (.str [99, 111, 117, 110, 116, 101, 100])) (vStar (vFld [10] [99, 111, 117, 110, 116, 101, 100] (vVar 0)) vNil))) vNil)))
      (vSeq (vSetS 3 (vSM joinT (vC (.str [32])) (vCons (vLst (vCons (vC (.str [107, 101, 101, 112, 115])) (vStar (vFld [10] [107, 101, 101, 112, 115] (vVar 0)) vNil))) vNil)))
      (vRet (vLst (vCons (vVar 1) (vCons (vVar 2) (vCons (vVar 3) (vStar (vLc [4] (vSeqI (vFld [10] [114, 111, 119, 115] (vVar 0))) (gNE 4) (fun _ => .ret true) (vCBP (strOwnP 7 1 m_Row_str (strOwnP 8 1 m_Row_str (strOwnP 9 1 m_Row_str (fun ts => opt (strT ts))))) (vCons (vVar 4) vNil))) vNil)))))))))) (ss_seq (ss_setS 1 (se_sm rm_join (se_str lt2) (sa_cons' (se_lst (sa_cons' (se_str lt23) (sa_star (se_fld lt23 (fa_marks T) (se_var 0)) sa_nil'))) sa_nil')))
      (ss_seq (ss_setS 2 (se_sm rm_join (se_str lt2) (sa_cons' (se_lst (sa_cons' (se_str lt24) (sa_star (se_fld lt24 (fa_counted T) (se_var 0)) sa_nil'))) sa_nil')))
      (ss_seq (ss_setS 3 (se_sm rm_join (se_str lt2) (sa_cons' (se_lst (sa_cons' (se_str lt25) (sa_star (se_fld lt25 (fa_keeps T) (se_var 0)) sa_nil'))) sa_nil')))
      (ss_ret (se_lst (sa_cons' (se_var 1) (sa_cons' (se_var 2) (sa_cons' (se_var 3) (sa_star (SF.se (sf_lc (si_any (se_fld lt26 (fa_rows T) (se_var 0))) (sge_name 4 (by decide)) st_yes (se_cbp (rcp_strOwn rfl (rcp_strOwn rfl (rcp_strOwn rfl (rcp_of rc_str)))) (sa_cons' (se_var 4) sa_nil')))) sa_nil'))))))))) h (by decide)⟩
theorem sc_Book_str : FnScope ["self"] ["self"] (defScope s_Book_str) := ⟨rfl, rfl, rfl, by decide +kernel, rfl, by decide +kernel, by decide +kernel⟩
def m_Book_str : List T → Prog T := runF 1
  (vRet (vSM joinT (vC (.str [10])) (vCons (vCall 1 m_lines (vCons (vVar 0) vNil)) vNil)))
theorem ok_Book_str (T : Tx A K mg) (TW : TxW A K w) (c_lines : CalX P w K mg base CX0 4 "_lines" (spM (vcx A K w D) 1 m_lines)) {f : Addr} {fd : FuncData} (F : Fun K "__str__" "Book.__str__" s_Book_str f fd) : FnOk P w K mg base CX0 5 f fd ["self"] (spM (vcx A K w D) 1 m_Book_str) := by
  refine F.ok sc_Book_str (fun vs H Q E h => ?_) (fun cdv A' outer s H vs Q E hr h => ?_)
  · obtain ⟨_, _, hl, _⟩ := h; exact hl
  · exact ⟨_, (pss_one (ps_ret (pe_bm PySem.F.plainAttrs_str PySem.F.slot_str_join PySem.F.type_str_join (show MtR _ _ (rJoin K) from mt_join) pe_str (pa_cons (pe_cal c_lines hr (by decide) pass0 (pa_cons (pv 0) pa_nil)) pa_nil)))),
      ss_run (E := E0) (N := ["self"]) (mb := (vRet (vSM joinT (vC (.str [10])) (vCons (vCall 1 m_lines (vCons (vVar 0) vNil)) vNil)))) (ss_ret (se_sm rm_join (se_str lt32) (sa_cons' (se_call (sa_cons' (se_var 0) sa_nil')) sa_nil'))) h (by decide)⟩
theorem sc_Book_eq : FnScope ["self", "other"] ["self", "other"] (defScope s_Book_eq) := ⟨rfl, rfl, rfl, by decide +kernel, rfl, by decide +kernel, by decide +kernel⟩
def m_Book_eq : List T → Prog T := runF 2
  (vRet (vAndV (vCB (isiO 10 isT_Book) (vCons (vVar 1) (vCons (vC (.cl 10)) vNil))) (v2 eqT (vCBP (strOwnP 10 1 m_Book_str (fun ts => opt (strT ts))) (vCons (vVar 0) vNil)) (vCBP (strOwnP 10 1 m_Book_str (fun ts => opt (strT ts))) (vCons (vVar 1) vNil)))))
theorem ok_Book_eq (T : Tx A K mg) (TW : TxW A K w) {fd_Book_str : FuncData} (F_Book_str : FnOk P w K mg base CX0 5 A.f_Book_str fd_Book_str ["self"] (spM (vcx A K w D) 1 m_Book_str)) (b_Book_str : Binds K fd_Book_str ["self"] []) {f : Addr} {fd : FuncData} (F : Fun K "__eq__" "Book.__eq__" s_Book_eq f fd) : FnOk P w K mg base CX0 8 f fd ["self", "other"] (spM (vcx A K w D) 2 m_Book_eq) := by
  refine F.ok sc_Book_eq (fun vs H Q E h => ?_) (fun cdv A' outer s H vs Q E hr h => ?_)
  · obtain ⟨_, _, hl, _⟩ := h; exact hl
  · exact ⟨_, (pss_one (ps_ret (pe_and (pe_callB (show CallR _ _ (rIsi K) from call_isi) (by rfl) T.z_isinstance (by decide +kernel) (pa_cons (pv 1) (pa_cons (pe_glob (v := .ref A.Book) rfl T.g_Book rfl) pa_nil))) (pe_one (pe_cmpR (show OpR _ _ (rEqAny K) from op_eqAny hr.units) (pe_callTy (CallR.or (call_str_own (E := E0) (C := A.Book) ⟨T.m_Book_str, T.i_f_Book_str⟩ F_Book_str (hr.mono (by decide)) b_Book_str pass0) call_str_is) (by rfl) T.z_str (by decide +kernel) (pa_cons (pv 0) pa_nil)) (pe_callTy (CallR.or (call_str_own (E := E0) (C := A.Book) ⟨T.m_Book_str, T.i_f_Book_str⟩ F_Book_str (hr.mono (by decide)) b_Book_str pass0) call_str_is) (by rfl) T.z_str (by decide +kernel) (pa_cons (pv 1) pa_nil)) (nomark _)))))),
      ss_run (E := E0) (N := ["self", "other"]) (mb := (vRet (vAndV (vCB (isiO 10 isT_Book) (vCons (vVar 1) (vCons (vC (.cl 10)) vNil))) (v2 eqT (vCBP (strOwnP 10 1 m_Book_str (fun ts => opt (strT ts))) (vCons (vVar 0) vNil)) (vCBP (strOwnP 10 1 m_Book_str (fun ts => opt (strT ts))) (vCons (vVar 1) vNil)))))) (ss_ret (se_andV (se_cb (rc_isiO (isi_Book T)) (sa_cons' (se_var 1) (sa_cons' (se_cl 10 rfl) sa_nil'))) (se_op ro_eq (se_cbp (rcp_strOwn rfl (rcp_of rc_str)) (sa_cons' (se_var 0) sa_nil')) (se_cbp (rcp_strOwn rfl (rcp_of rc_str)) (sa_cons' (se_var 1) sa_nil'))))) h (by decide)⟩
theorem sc_can_stand : FnScope ["at", "words", "word"] ["at", "words"] (defScope s_can_stand) := ⟨rfl, rfl, rfl, by decide +kernel, rfl, by decide +kernel, by decide +kernel⟩
def m_can_stand : List T → Prog T := runF 3
  (vSeq (vIfS (vT (v2 eqT (vVar 0) (vC (.int 2)))) (vRet (vCB (allT fun bs => bs.all id) (vCons (vLc [2] (vSeqI (vVar 1)) (gNE 2) (fun _ => .ret true) (v2 (inF false) (vVar 2) (vC k_EDITS))) vNil))) vNext)
      (vRet (vAndV (vOrV (v2 gtT (vVar 0) (vC (.int 0))) (v2 gtT (vCB lenT' (vCons (vVar 1) vNil)) (vC (.int 0)))) (vCB (allT fun bs => bs.all id) (vCons (vLc [2] (vSeqI (vVar 1)) (gNE 2) (fun _ => .ret true) (vCall 1 m_is_name (vCons (vVar 2) vNil))) vNil)))))
theorem ok_can_stand (T : Tx A K mg) (TW : TxW A K w) (c_is_name : CalX P w K mg base CX0 1 "is_name" (spM (vcx A K w D) 1 m_is_name)) {f : Addr} {fd : FuncData} (F : Fun K "_can_stand" "_can_stand" s_can_stand f fd) : FnOk P w K mg base CX0 2 f fd ["at", "words"] (spM (vcx A K w D) 2 m_can_stand) := by
  refine F.ok sc_can_stand (fun vs H Q E h => ?_) (fun cdv A' outer s H vs Q E hr h => ?_)
  · obtain ⟨_, _, hl, _⟩ := h; exact hl
  · exact ⟨_, (pss_cons (ps_if (pt_cmpR (show OpR _ _ (rEqAny K) from op_eqAny hr.units) (pv 0) pe_int (nomark _)) (pss_one (ps_ret (pe_callB (show CallR _ _ (rAll K) from cr_all rfl) (by rfl) T.z_all (by decide +kernel) (pa_cons (pe_lc (own := [("word", 2)]) (g := (gName 2)) rfl sc_can_stand.nd (show PI _ _ _ (iAny K _) from pi_any (pv 1)) (blkOk_by (own := [("word", 2)]) (N := ["at", "words", "word"]) (sc := defScope s_can_stand) (by decide +kernel)) (fun _ _ _ _ _ => pg_name (i := 2) sc_can_stand.nd rfl (Or.inl rfl)) (fun _ _ _ _ _ => pts_nil) (fun _ _ _ _ _ => (pe_cmpR (show OpR _ _ (rIn K false) from op_in_seq) (pv 2) (pe_glob (v := .ref A.EDITS) rfl T.g_EDITS rfl) (by rfl)))) pa_nil)))) pss_nil)
      (pss_one (ps_ret (pe_and (pe_or (pe_cmpR op_gt (pv 0) pe_int (nomark _)) (pe_one (pe_cmpR op_gt (pe_callB (show CallR _ _ (rLenAny K) from call_lenAny) (by rfl) T.z_len (by decide +kernel) (pa_cons (pv 1) pa_nil)) pe_int (nomark _)))) (pe_one (pe_callB (show CallR _ _ (rAll K) from cr_all rfl) (by rfl) T.z_all (by decide +kernel) (pa_cons (pe_lc (own := [("word", 2)]) (g := (gName 2)) rfl sc_can_stand.nd (show PI _ _ _ (iAny K _) from pi_any (pv 1)) (blkOk_by (own := [("word", 2)]) (N := ["at", "words", "word"]) (sc := defScope s_can_stand) (by decide +kernel)) (fun _ _ _ _ _ => pg_name (i := 2) sc_can_stand.nd rfl (Or.inl rfl)) (fun _ _ _ _ _ => pts_nil) (fun _ _ _ _ _ => (pe_cal c_is_name hr (by decide) pass0 (pa_cons (pv 2) pa_nil)))) pa_nil))))))),
      ss_run (E := E0) (N := ["at", "words", "word"]) (mb := (vSeq (vIfS (vT (v2 eqT (vVar 0) (vC (.int 2)))) (vRet (vCB (allT fun bs => bs.all id) (vCons (vLc [2] (vSeqI (vVar 1)) (gNE 2) (fun _ => .ret true) (v2 (inF false) (vVar 2) (vC k_EDITS))) vNil))) vNext)
      (vRet (vAndV (vOrV (v2 gtT (vVar 0) (vC (.int 0))) (v2 gtT (vCB lenT' (vCons (vVar 1) vNil)) (vC (.int 0)))) (vCB (allT fun bs => bs.all id) (vCons (vLc [2] (vSeqI (vVar 1)) (gNE 2) (fun _ => .ret true) (vCall 1 m_is_name (vCons (vVar 2) vNil))) vNil)))))) (ss_seq (ss_if (st_test (se_op ro_eq (se_var 0) se_int)) (ss_ret (se_cb rc_all (sa_cons' (SF.se (sf_lc (si_any (se_var 1)) (sge_name 2 (by decide)) st_yes (se_op (ro_inF false) (se_var 2) (se_c (rp_EDITS T))))) sa_nil'))) ss_next)
      (ss_ret (se_andV (se_orV (se_op ro_gt (se_var 0) se_int) (se_op ro_gt (se_cb rc_len (sa_cons' (se_var 1) sa_nil')) se_int)) (se_cb rc_all (sa_cons' (SF.se (sf_lc (si_any (se_var 1)) (sge_name 2 (by decide)) st_yes (se_call (sa_cons' (se_var 2) sa_nil')))) sa_nil'))))) h (by decide)⟩
theorem sc_head : FnScope ["at", "line", "words"] ["at", "line"] (defScope s_head) := ⟨rfl, rfl, rfl, by decide +kernel, rfl, by decide +kernel, by decide +kernel⟩
def m_head : List T → Prog T := runF 3
  (vSeq (vSetS 2 (vSM splitT (vVar 1) (vCons (vC (.str [32])) vNil)))
      (vSeq (vIfS (vOrT (vT (v2 neT (v2 ixT (vVar 2) (vC (.int 0))) (v2 ixT (vC k_HEADS) (vVar 0)))) (vNotT (vT (vCall 2 m_can_stand (vCons (vVar 0) (vCons (vSl (vVar 2) (vPart (vC (.int 1))) vNoPart) vNil)))))) (fun _ => .fail) vNext)
      (vRet (vSl (vVar 2) (vPart (vC (.int 1))) vNoPart))))
theorem ok_head (T : Tx A K mg) (TW : TxW A K w) (c_can_stand : CalX P w K mg base CX0 2 "_can_stand" (spM (vcx A K w D) 2 m_can_stand)) {f : Addr} {fd : FuncData} (F : Fun K "_head" "_head" s_head f fd) : FnOk P w K mg base CX0 3 f fd ["at", "line"] (spM (vcx A K w D) 2 m_head) := by
  refine F.ok sc_head (fun vs H Q E h => ?_) (fun cdv A' outer s H vs Q E hr h => ?_)
  · obtain ⟨_, _, hl, _⟩ := h; exact hl
  · exact ⟨_, (pss_cons (ps_set (i := 2) sc_head.nd rfl (by first | exact .inl rfl | exact .inr rfl) (pe_bm PySem.F.plainAttrs_str PySem.F.slot_str_split PySem.F.type_str_split mt_split (pv 1) (pa_cons pe_str pa_nil)))
      (pss_cons (ps_if (PW.pt (pw_or (pt_cmpR (show OpR _ _ (rNeAny K) from op_neAny hr.units) (pe_ix (show IxR _ (rIx K) from ix_seq) (pv 2) pe_int (fun _ _ => rfl)) (pe_ix (show IxR _ (rIx K) from ix_seq) (pe_glob (v := .ref A.HEADS) rfl T.g_HEADS rfl) (pv 0) (fun _ _ => rfl)) (nomark _)) (pw_or1 (pt_not (pt_val (pe_cal c_can_stand hr (by decide) pass0 (pa_cons (pv 0) (pa_cons (pe_slice (show SlR _ (rSlAny K) from sl_any) (pv 2) (po_some pe_int) po_none) pa_nil)))))))) (pss_one ps_never) pss_nil)
      (pss_one (ps_ret (pe_slice (show SlR _ (rSlAny K) from sl_any) (pv 2) (po_some pe_int) po_none))))),
      ss_run (E := E0) (N := ["at", "line", "words"]) (mb := (vSeq (vSetS 2 (vSM splitT (vVar 1) (vCons (vC (.str [32])) vNil)))
      (vSeq (vIfS (vOrT (vT (v2 neT (v2 ixT (vVar 2) (vC (.int 0))) (v2 ixT (vC k_HEADS) (vVar 0)))) (vNotT (vT (vCall 2 m_can_stand (vCons (vVar 0) (vCons (vSl (vVar 2) (vPart (vC (.int 1))) vNoPart) vNil)))))) (fun _ => .fail) vNext)
      (vRet (vSl (vVar 2) (vPart (vC (.int 1))) vNoPart))))) (ss_seq (ss_setS 2 (se_sm rm_split (se_var 1) (sa_cons' (se_str lt2) sa_nil')))
      (ss_seq (ss_if (st_or (st_test (se_op ro_ne (se_op ro_ix (se_var 2) se_int) (se_op ro_ix (se_c (rp_HEADS T)) (se_var 0)))) (st_not (st_B (se_call (sa_cons' (se_var 0) (sa_cons' (se_sl (se_var 2) (so_part se_int) so_none) sa_nil')))))) ss_never ss_next)
      (ss_ret (se_sl (se_var 2) (so_part se_int) so_none)))) h (by decide)⟩
theorem sc_row : FnScope ["at", "line"] ["at", "line"] (defScope s_row) := ⟨rfl, rfl, rfl, by decide +kernel, rfl, by decide +kernel, by decide +kernel⟩
def m_row : List T → Prog T := runF 2
  (vRet (vCMeth 6 2 m_Row_read (vCons (vVar 1) vNil)))
theorem ok_row (T : Tx A K mg) (TW : TxW A K w) {fd_Row_read : FuncData} (F_Row_read : FnOk P w K mg base CX0 7 A.f_Row_read fd_Row_read ["cls", "text"] (spM (vcx A K w D) 2 m_Row_read)) (b_Row_read : Binds K fd_Row_read ["cls", "text"] []) {f : Addr} {fd : FuncData} (F : Fun K "_row" "_row" s_row f fd) : FnOk P w K mg base CX0 8 f fd ["at", "line"] (spM (vcx A K w D) 2 m_row) := by
  refine F.ok sc_row (fun vs H Q E h => ?_) (fun cdv A' outer s H vs Q E hr h => ?_)
  · obtain ⟨_, _, hl, _⟩ := h; exact hl
  · exact ⟨_, (pss_one (ps_try_thru0 (pss_one (ps_ret (pe_cmethS (pe_glob (v := .ref A.Row) rfl T.g_Row rfl) ⟨T.rd_Row, T.ga_Row⟩ T.c_Row_read F_Row_read (hr.mono (by decide)) b_Row_read (fun _ _ _ _ _ _ _ h => h.elim) (pa_cons (pv 1) pa_nil)))))),
      ss_run (E := E0) (N := ["at", "line"]) (mb := (vRet (vCMeth 6 2 m_Row_read (vCons (vVar 1) vNil)))) (ss_ret (se_cmethS (E' := fun _ => E0) rfl (sa_cons' (se_var 1) sa_nil'))) h (by decide)⟩
theorem sc_Book_read : FnScope ["cls", "text", "lines", "heads", "rows", "at", "line"] ["cls", "text"] (defScope s_Book_read) := ⟨rfl, rfl, rfl, by decide +kernel, rfl, by decide +kernel, by decide +kernel⟩
def m_Book_read : List T → Prog T := runF 7
  (vSeq (vIfS (vNotT (vT (vCB isiB (vCons (vVar 1) (vCons (vC (.ty "str")) vNil))))) (fun _ => .fail) vNext)
      (vSeq (vSetS 2 (vSM splitT (vVar 1) (vCons (vC (.str [10])) vNil)))
      (vSeq (vSetS 3 (vLc [5, 6] (vEnum (vCons (vSl (vVar 2) vNoPart (vPart (vC (.int 3)))) vNil)) (gTE 2 (gsConsE (gNE 5) (gsConsE (gNE 6) gsNilE))) (fun _ => .ret true) (vCall 2 m_head (vCons (vVar 5) (vCons (vVar 6) vNil)))))
      (vSeq (vIfS (vT (v2 ltT (vCB lenT' (vCons (vVar 3) vNil)) (vC (.int 3)))) (fun _ => .fail) vNext)
      (vSeq (vSetS 4 (vLc [5, 6] (vEnum (vCons (vVar 2) vNil)) (gTE 2 (gsConsE (gNE 5) (gsConsE (gNE 6) gsNilE))) (vT (v2 geT (vVar 5) (vC (.int 3)))) (vCall 2 m_row (vCons (vVar 5) (vCons (vVar 6) vNil)))))
      (vRet (vMakeV 0 10 5 m_Book_init (vCons (v2 ixT (vVar 3) (vC (.int 0))) (vCons (v2 ixT (vVar 3) (vC (.int 1))) (vCons (v2 ixT (vVar 3) (vC (.int 2))) (vCons (vVar 4) vNil)))))))))))
theorem ok_Book_read (T : Tx A K mg) (TW : TxW A K w) (c_head : CalX P w K mg base CX0 3 "_head" (spM (vcx A K w D) 2 m_head)) (c_row : CalX P w K mg base CX0 8 "_row" (spM (vcx A K w D) 2 m_row)) (c_Book_init : MakX P w K mg base CX0 4 "Book" A.Book (spI (vcx A K w D) 5 [10] m_Book_init)) {f : Addr} {fd : FuncData} (F : Fun K "read" "Book.read" s_Book_read f fd) : FnOk P w K mg base CX0 9 f fd ["cls", "text"] (spM (vcx A K w D) 2 m_Book_read) := by
  refine F.ok sc_Book_read (fun vs H Q E h => ?_) (fun cdv A' outer s H vs Q E hr h => ?_)
  · obtain ⟨_, _, hl, _⟩ := h; exact hl
  · exact ⟨_, (pss_cons (ps_if (pt_not (pt_val (pe_callB (show CallR _ _ (rIsi K) from call_isi) (by rfl) T.z_isinstance (by decide +kernel) (pa_cons (pv 1) (pa_cons (pe_bltn (v := .ty "str") (by rfl) T.z_str (by decide +kernel) rfl) pa_nil))))) (pss_one ps_never) pss_nil)
      (pss_cons (ps_set (i := 2) sc_Book_read.nd rfl (by first | exact .inl rfl | exact .inr rfl) (pe_bm PySem.F.plainAttrs_str PySem.F.slot_str_split PySem.F.type_str_split mt_split (pv 1) (pa_cons pe_str pa_nil)))
      (pss_cons (ps_setLc (i := 3) (own := [("at", 5), ("line", 6)]) (g := (gTup K 2 (gCons (gName 5) (gCons (gName 6) (gNil))))) rfl sc_Book_read.nd rfl rfl (sw_true rfl rfl rfl (by decide +kernel)) (show PI _ _ _ (iEnum K _) from pi_enum (by rfl) T.z_enumerate (pa_cons (pe_slice (show SlR _ (rSlAny K) from sl_any) (pv 2) po_none (po_some pe_int)) pa_nil)) (blkOk_by (own := [("at", 5), ("line", 6)]) (N := ["cls", "text", "lines", "heads", "rows", "at", "line"]) (sc := defScope s_Book_read) (by decide +kernel)) (fun _ _ _ _ _ => (pg_tup (by rfl) (pgs_cons (pg_name (i := 5) sc_Book_read.nd rfl (Or.inl rfl)) (pgs_cons (pg_name (i := 6) sc_Book_read.nd rfl (Or.inl rfl)) pgs_nil)))) (fun _ _ _ _ _ => pts_nil) (fun _ _ _ _ _ => (pe_cal c_head hr (by decide) pass0 (pa_cons (pv 5) (pa_cons (pv 6) pa_nil)))))
      (pss_cons (ps_if (pt_cmpR op_ltAny (pe_callB (show CallR _ _ (rLenAny K) from call_lenAny) (by rfl) T.z_len (by decide +kernel) (pa_cons (pv 3) pa_nil)) pe_int (nomark _)) (pss_one ps_never) pss_nil)
      (pss_cons (ps_setLc (i := 4) (own := [("at", 5), ("line", 6)]) (g := (gTup K 2 (gCons (gName 5) (gCons (gName 6) (gNil))))) rfl sc_Book_read.nd rfl rfl (sw_true rfl rfl rfl (by decide +kernel)) (show PI _ _ _ (iEnum K _) from pi_enum (by rfl) T.z_enumerate (pa_cons (pv 2) pa_nil)) (blkOk_by (own := [("at", 5), ("line", 6)]) (N := ["cls", "text", "lines", "heads", "rows", "at", "line"]) (sc := defScope s_Book_read) (by decide +kernel)) (fun _ _ _ _ _ => (pg_tup (by rfl) (pgs_cons (pg_name (i := 5) sc_Book_read.nd rfl (Or.inl rfl)) (pgs_cons (pg_name (i := 6) sc_Book_read.nd rfl (Or.inl rfl)) pgs_nil)))) (fun _ _ _ _ _ => pts_one (pt_cmpR op_ge (pv 5) pe_int (nomark _))) (fun _ _ _ _ _ => (pe_cal c_row hr (by decide) pass0 (pa_cons (pv 5) (pa_cons (pv 6) pa_nil)))))
      (pss_one (ps_ret (pe_mkv (i := 0) c_Book_init hr (by decide) pass0 rfl (by first | exact .inl rfl | exact .inr rfl) (pa_cons (pe_ix (show IxR _ (rIx K) from ix_seq) (pv 3) pe_int (fun _ _ => rfl)) (pa_cons (pe_ix (show IxR _ (rIx K) from ix_seq) (pv 3) pe_int (fun _ _ => rfl)) (pa_cons (pe_ix (show IxR _ (rIx K) from ix_seq) (pv 3) pe_int (fun _ _ => rfl)) (pa_cons (pv 4) pa_nil)))))))))))),
      ss_run (E := E0) (N := ["cls", "text", "lines", "heads", "rows", "at", "line"]) (mb := (vSeq (vIfS (vNotT (vT (vCB isiB (vCons (vVar 1) (vCons (vC (.ty "str")) vNil))))) (fun _ => .fail) vNext)
      (vSeq (vSetS 2 (vSM splitT (vVar 1) (vCons (vC (.str [10])) vNil)))
      (vSeq (vSetS 3 (vLc [5, 6] (vEnum (vCons (vSl (vVar 2) vNoPart (vPart (vC (.int 3)))) vNil)) (gTE 2 (gsConsE (gNE 5) (gsConsE (gNE 6) gsNilE))) (fun _ => .ret true) (vCall 2 m_head (vCons (vVar 5) (vCons (vVar 6) vNil)))))
      (vSeq (vIfS (vT (v2 ltT (vCB lenT' (vCons (vVar 3) vNil)) (vC (.int 3)))) (fun _ => .fail) vNext)
      (vSeq (vSetS 4 (vLc [5, 6] (vEnum (vCons (vVar 2) vNil)) (gTE 2 (gsConsE (gNE 5) (gsConsE (gNE 6) gsNilE))) (vT (v2 geT (vVar 5) (vC (.int 3)))) (vCall 2 m_row (vCons (vVar 5) (vCons (vVar 6) vNil)))))
      (vRet (vMakeV 0 10 5 m_Book_init (vCons (v2 ixT (vVar 3) (vC (.int 0))) (vCons (v2 ixT (vVar 3) (vC (.int 1))) (vCons (v2 ixT (vVar 3) (vC (.int 2))) (vCons (vVar 4) vNil)))))))))))) (ss_seq (ss_if (st_not (st_B (se_cb rc_isiB (sa_cons' (se_var 1) (sa_cons' se_ty sa_nil'))))) ss_never ss_next)
      (ss_seq (ss_setS 2 (se_sm rm_split (se_var 1) (sa_cons' (se_str lt32) sa_nil')))
      (ss_seq (ss_setS 3 (SF.se (sf_lc (si_enum (sa_cons' (se_sl (se_var 2) so_none (so_part se_int)) sa_nil')) (sge_tup (sges_cons (sge_name 5 (by decide)) (sges_cons (sge_name 6 (by decide)) sges_nil))) st_yes (se_call (sa_cons' (se_var 5) (sa_cons' (se_var 6) sa_nil'))))))
      (ss_seq (ss_if (st_test (se_op ro_lt (se_cb rc_len (sa_cons' (se_var 3) sa_nil')) se_int)) ss_never ss_next)
      (ss_seq (ss_setS 4 (SF.se (sf_lc (si_enum (sa_cons' (se_var 2) sa_nil')) (sge_tup (sges_cons (sge_name 5 (by decide)) (sges_cons (sge_name 6 (by decide)) sges_nil))) (st_test (se_op ro_ge (se_var 5) se_int)) (se_call (sa_cons' (se_var 5) (sa_cons' (se_var 6) sa_nil'))))))
      (ss_ret (se_mkv 0 rfl (by decide) (sa_cons' (se_op ro_ix (se_var 3) se_int) (sa_cons' (se_op ro_ix (se_var 3) se_int) (sa_cons' (se_op ro_ix (se_var 3) se_int) (sa_cons' (se_var 4) sa_nil'))))))))))) h (by decide)⟩
theorem sc_refuse_other_marks : FnScope ["marks", "values", "value"] ["marks", "values"] (defScope s_refuse_other_marks) := ⟨rfl, rfl, rfl, by decide +kernel, rfl, by decide +kernel, by decide +kernel⟩
def m_refuse_other_marks : List T → Prog T := runF 3
  (vFor (vSeqI (vVar 1)) (gN 2) (vIfS (vT (v2 (inF true) (vVar 2) (vVar 0))) (fun _ => .fail) vNext))
theorem ok_refuse_other_marks (T : Tx A K mg) (TW : TxW A K w)  {f : Addr} {fd : FuncData} (F : Fun K "_refuse_other_marks" "_refuse_other_marks" s_refuse_other_marks f fd) : FnOk P w K mg base CX0 1 f fd ["marks", "values"] (spM (vcx A K w D) 2 m_refuse_other_marks) := by
  refine F.ok sc_refuse_other_marks (fun vs H Q E h => ?_) (fun cdv A' outer s H vs Q E hr h => ?_)
  · obtain ⟨_, _, hl, _⟩ := h; exact hl
  · exact ⟨_, (pss_one (ps_for PassesOwn.never rfl (show PI _ _ _ (iAny K _) from pi_any (pv 1)) (pg_name (i := 2) sc_refuse_other_marks.nd rfl (by first | exact .inl rfl | exact .inr rfl)) (pss_one (ps_if (pt_cmpR (show OpR _ _ (rIn K true) from op_notIn_seq) (pv 2) (pv 0) (by rfl)) (pss_one ps_never) pss_nil)))),
      ss_run (E := E0) (N := ["marks", "values", "value"]) (mb := (vFor (vSeqI (vVar 1)) (gN 2) (vIfS (vT (v2 (inF true) (vVar 2) (vVar 0))) (fun _ => .fail) vNext))) (ss_for (si_any (se_var 1)) (sg_name 2) (ss_if (st_test (se_op (ro_inF true) (se_var 2) (se_var 0))) ss_never ss_next)) h (by decide)⟩
theorem sc_Book_step : FnScope ["self", "kind", "mark", "told"] ["self", "kind", "mark"] (defScope s_Book_step) := ⟨rfl, rfl, rfl, by decide +kernel, rfl, by decide +kernel, by decide +kernel⟩
def m_Book_step : List T → Prog T := runF 4
  (vSeq (vDrop (vCall 2 m_refuse_other_marks (vCons (vFld [10] [109, 97, 114, 107, 115] (vVar 0)) (vCons (vTup (vCons (vVar 2) vNil)) vNil))))
      (vSeq (vSetS 3 (vGet1 (vFld [10] [115, 116, 101, 112, 115] (vVar 0)) (vVar 1)))
      (vRet (vIf (vT (v2 (isN false) (vVar 3) (vC .non))) (vTup (vCons (vVar 2) (vCons (vC (.int 0)) vNil))) (vGet (vVar 3) (vVar 2))))))
theorem ok_Book_step (T : Tx A K mg) (TW : TxW A K w) (c_refuse_other_marks : CalX P w K mg base CX0 1 "_refuse_other_marks" (spM (vcx A K w D) 2 m_refuse_other_marks)) {f : Addr} {fd : FuncData} (F : Fun K "step" "Book.step" s_Book_step f fd) : FnOk P w K mg base CX0 2 f fd ["self", "kind", "mark"] (spM (vcx A K w D) 3 m_Book_step) := by
  refine F.ok sc_Book_step (fun vs H Q E h => ?_) (fun cdv A' outer s H vs Q E hr h => ?_)
  · obtain ⟨_, _, hl, _⟩ := h; exact hl
  · exact ⟨_, (pss_cons (ps_expr (pe_cal c_refuse_other_marks hr (by decide) pass0 (pa_cons (pe_fld (pv 0) rfl) (pa_cons (pe_tup (pa_cons (pv 2) pa_nil)) pa_nil))))
      (pss_cons (ps_set (i := 3) sc_Book_step.nd rfl (by first | exact .inl rfl | exact .inr rfl) (pe_dget1 (hu_of hr) (pe_fld (pv 0) rfl) (pv 1) ⟨rfl, rfl, rfl, rfl⟩))
      (pss_one (ps_ret (pe_ifExp (pt_cmpR op_isN (pv 3) pe_non (nomark _)) (pe_tup (pa_cons (pv 2) (pa_cons pe_int pa_nil))) (pe_dget (hu_of hr) (pv 3) (pv 2) (fun _ _ => rfl))))))),
      ss_run (E := E0) (N := ["self", "kind", "mark", "told"]) (mb := (vSeq (vDrop (vCall 2 m_refuse_other_marks (vCons (vFld [10] [109, 97, 114, 107, 115] (vVar 0)) (vCons (vTup (vCons (vVar 2) vNil)) vNil))))
      (vSeq (vSetS 3 (vGet1 (vFld [10] [115, 116, 101, 112, 115] (vVar 0)) (vVar 1)))
      (vRet (vIf (vT (v2 (isN false) (vVar 3) (vC .non))) (vTup (vCons (vVar 2) (vCons (vC (.int 0)) vNil))) (vGet (vVar 3) (vVar 2))))))) (ss_seq (ss_drop (se_call (sa_cons' (se_fld lt23 (fa_marks T) (se_var 0)) (sa_cons' (se_tup (sa_cons' (se_var 2) sa_nil')) sa_nil'))))
      (ss_seq (ss_setS 3 (se_get1 (se_fld lt29 (fa_steps T) (se_var 0)) (se_var 1)))
      (ss_ret (se_if (st_test (se_op ro_isN (se_var 3) se_non)) (se_tup (sa_cons' (se_var 2) (sa_cons' se_int sa_nil'))) (se_get (se_var 3) (se_var 2)))))) h (by decide)⟩
theorem sc_Book_joined : FnScope ["self", "here", "there"] ["self", "here", "there"] (defScope s_Book_joined) := ⟨rfl, rfl, rfl, by decide +kernel, rfl, by decide +kernel, by decide +kernel⟩
def m_Book_joined : List T → Prog T := runF 3
  (vSeq (vDrop (vCall 2 m_refuse_other_marks (vCons (vFld [10] [109, 97, 114, 107, 115] (vVar 0)) (vCons (vTup (vCons (vVar 1) (vCons (vVar 2) vNil))) vNil))))
      (vRet (vGet (vFld [10] [106, 111, 105, 110, 115] (vVar 0)) (vTup (vCons (vVar 1) (vCons (vVar 2) vNil))))))
theorem ok_Book_joined (T : Tx A K mg) (TW : TxW A K w) (c_refuse_other_marks : CalX P w K mg base CX0 1 "_refuse_other_marks" (spM (vcx A K w D) 2 m_refuse_other_marks)) {f : Addr} {fd : FuncData} (F : Fun K "joined" "Book.joined" s_Book_joined f fd) : FnOk P w K mg base CX0 2 f fd ["self", "here", "there"] (spM (vcx A K w D) 3 m_Book_joined) := by
  refine F.ok sc_Book_joined (fun vs H Q E h => ?_) (fun cdv A' outer s H vs Q E hr h => ?_)
  · obtain ⟨_, _, hl, _⟩ := h; exact hl
  · exact ⟨_, (pss_cons (ps_expr (pe_cal c_refuse_other_marks hr (by decide) pass0 (pa_cons (pe_fld (pv 0) rfl) (pa_cons (pe_tup (pa_cons (pv 1) (pa_cons (pv 2) pa_nil))) pa_nil))))
      (pss_one (ps_ret (pe_dget (hu_of hr) (pe_fld (pv 0) rfl) (pe_tup (pa_cons (pv 1) (pa_cons (pv 2) pa_nil))) (fun _ _ => rfl))))),
      ss_run (E := E0) (N := ["self", "here", "there"]) (mb := (vSeq (vDrop (vCall 2 m_refuse_other_marks (vCons (vFld [10] [109, 97, 114, 107, 115] (vVar 0)) (vCons (vTup (vCons (vVar 1) (vCons (vVar 2) vNil))) vNil))))
      (vRet (vGet (vFld [10] [106, 111, 105, 110, 115] (vVar 0)) (vTup (vCons (vVar 1) (vCons (vVar 2) vNil))))))) (ss_seq (ss_drop (se_call (sa_cons' (se_fld lt23 (fa_marks T) (se_var 0)) (sa_cons' (se_tup (sa_cons' (se_var 1) (sa_cons' (se_var 2) sa_nil'))) sa_nil'))))
      (ss_ret (se_get (se_fld lt30 (fa_joins T) (se_var 0)) (se_tup (sa_cons' (se_var 1) (sa_cons' (se_var 2) sa_nil')))))) h (by decide)⟩
theorem sc_Book_parted : FnScope ["self", "mark"] ["self", "mark"] (defScope s_Book_parted) := ⟨rfl, rfl, rfl, by decide +kernel, rfl, by decide +kernel, by decide +kernel⟩
def m_Book_parted : List T → Prog T := runF 2
  (vSeq (vDrop (vCall 2 m_refuse_other_marks (vCons (vFld [10] [109, 97, 114, 107, 115] (vVar 0)) (vCons (vTup (vCons (vVar 1) vNil)) vNil))))
      (vRet (vGet (vFld [10] [112, 97, 114, 116, 115] (vVar 0)) (vVar 1))))
theorem ok_Book_parted (T : Tx A K mg) (TW : TxW A K w) (c_refuse_other_marks : CalX P w K mg base CX0 1 "_refuse_other_marks" (spM (vcx A K w D) 2 m_refuse_other_marks)) {f : Addr} {fd : FuncData} (F : Fun K "parted" "Book.parted" s_Book_parted f fd) : FnOk P w K mg base CX0 2 f fd ["self", "mark"] (spM (vcx A K w D) 2 m_Book_parted) := by
  refine F.ok sc_Book_parted (fun vs H Q E h => ?_) (fun cdv A' outer s H vs Q E hr h => ?_)
  · obtain ⟨_, _, hl, _⟩ := h; exact hl
  · exact ⟨_, (pss_cons (ps_expr (pe_cal c_refuse_other_marks hr (by decide) pass0 (pa_cons (pe_fld (pv 0) rfl) (pa_cons (pe_tup (pa_cons (pv 1) pa_nil)) pa_nil))))
      (pss_one (ps_ret (pe_dget (hu_of hr) (pe_fld (pv 0) rfl) (pv 1) (fun _ _ => rfl))))),
      ss_run (E := E0) (N := ["self", "mark"]) (mb := (vSeq (vDrop (vCall 2 m_refuse_other_marks (vCons (vFld [10] [109, 97, 114, 107, 115] (vVar 0)) (vCons (vTup (vCons (vVar 1) vNil)) vNil))))
      (vRet (vGet (vFld [10] [112, 97, 114, 116, 115] (vVar 0)) (vVar 1))))) (ss_seq (ss_drop (se_call (sa_cons' (se_fld lt23 (fa_marks T) (se_var 0)) (sa_cons' (se_tup (sa_cons' (se_var 1) sa_nil')) sa_nil'))))
      (ss_ret (se_get (se_fld lt31 (fa_parts T) (se_var 0)) (se_var 1)))) h (by decide)⟩
theorem sc_Book_without : FnScope ["self", "at"] ["self", "at"] (defScope s_Book_without) := ⟨rfl, rfl, rfl, by decide +kernel, rfl, by decide +kernel, by decide +kernel⟩
def m_Book_without : List T → Prog T := runF 2
  (vSeq (vIfS (vNotT (vT (vCall 2 m_is_place (vCons (vVar 1) (vCons (vFld [10] [114, 111, 119, 115] (vVar 0)) vNil))))) (fun _ => .fail) vNext)
      (vRet (vMake 10 5 m_Book_init (vCons (vFld [10] [109, 97, 114, 107, 115] (vVar 0)) (vCons (vFld [10] [99, 111, 117, 110, 116, 101, 100] (vVar 0)) (vCons (vFld [10] [107, 101, 101, 112, 115] (vVar 0)) (vCons (v2 addT (vSl (vFld [10] [114, 111, 119, 115] (vVar 0)) vNoPart (vPart (vVar 1))) (vSl (vFld [10] [114, 111, 119, 115] (vVar 0)) (vPart (v2 addT (vVar 1) (vC (.int 1)))) vNoPart)) vNil)))))))
theorem ok_Book_without (T : Tx A K mg) (TW : TxW A K w) (c_is_place : CalX P w K mg base CX0 2 "is_place" (spM (vcx A K w D) 2 m_is_place)) (c_Book_init : MakX P w K mg base CX0 4 "Book" A.Book (spI (vcx A K w D) 5 [10] m_Book_init)) {f : Addr} {fd : FuncData} (F : Fun K "without" "Book.without" s_Book_without f fd) : FnOk P w K mg base CX0 6 f fd ["self", "at"] (spM (vcx A K w D) 2 m_Book_without) := by
  refine F.ok sc_Book_without (fun vs H Q E h => ?_) (fun cdv A' outer s H vs Q E hr h => ?_)
  · obtain ⟨_, _, hl, _⟩ := h; exact hl
  · exact ⟨_, (pss_cons (ps_if (pt_not (pt_val (pe_cal c_is_place hr (by decide) pass0 (pa_cons (pv 1) (pa_cons (pe_fld (pv 0) rfl) pa_nil))))) (pss_one ps_never) pss_nil)
      (pss_one (ps_ret (pe_mkc c_Book_init hr (by decide) pass0 (pa_cons (pe_fld (pv 0) rfl) (pa_cons (pe_fld (pv 0) rfl) (pa_cons (pe_fld (pv 0) rfl) (pa_cons (pe_op (show OpR _ _ (rAddAny K) from op_addAny) (pe_slice (show SlR _ (rSlAny K) from sl_any) (pe_fld (pv 0) rfl) po_none (po_some (pv 1))) (pe_slice (show SlR _ (rSlAny K) from sl_any) (pe_fld (pv 0) rfl) (po_some (pe_op (show OpR _ _ (rAddAny K) from op_addAny) (pv 1) pe_int)) po_none)) pa_nil)))))))),
      ss_run (E := E0) (N := ["self", "at"]) (mb := (vSeq (vIfS (vNotT (vT (vCall 2 m_is_place (vCons (vVar 1) (vCons (vFld [10] [114, 111, 119, 115] (vVar 0)) vNil))))) (fun _ => .fail) vNext)
      (vRet (vMake 10 5 m_Book_init (vCons (vFld [10] [109, 97, 114, 107, 115] (vVar 0)) (vCons (vFld [10] [99, 111, 117, 110, 116, 101, 100] (vVar 0)) (vCons (vFld [10] [107, 101, 101, 112, 115] (vVar 0)) (vCons (v2 addT (vSl (vFld [10] [114, 111, 119, 115] (vVar 0)) vNoPart (vPart (vVar 1))) (vSl (vFld [10] [114, 111, 119, 115] (vVar 0)) (vPart (v2 addT (vVar 1) (vC (.int 1)))) vNoPart)) vNil)))))))) (ss_seq (ss_if (st_not (st_B (se_call (sa_cons' (se_var 1) (sa_cons' (se_fld lt26 (fa_rows T) (se_var 0)) sa_nil'))))) ss_never ss_next)
      (ss_ret (se_make rfl (by decide) (sa_cons' (se_fld lt23 (fa_marks T) (se_var 0)) (sa_cons' (se_fld lt24 (fa_counted T) (se_var 0)) (sa_cons' (se_fld lt25 (fa_keeps T) (se_var 0)) (sa_cons' (se_op ro_add (se_sl (se_fld lt26 (fa_rows T) (se_var 0)) so_none (so_part (se_var 1))) (se_sl (se_fld lt26 (fa_rows T) (se_var 0)) (so_part (se_op ro_add (se_var 1) se_int)) so_none)) sa_nil'))))))) h (by decide)⟩
theorem sc_asking_rows : FnScope ["book", "kind", "blank", "taken", "pairs", "mark", "here", "there"] ["book", "kind"] (defScope s_asking_rows) := ⟨rfl, rfl, rfl, by decide +kernel, rfl, by decide +kernel, by decide +kernel⟩
def m_asking_rows : List T → Prog T := runF 8
  (vSeq (vSetS 2 (vFld [10] [98, 108, 97, 110, 107] (vVar 0)))
      (vSeq (vSetS 3 (vX (.dK [] []) [5] (vSeqI (vFld [10] [109, 97, 114, 107, 115] (vVar 0))) (gNE 5) (fun _ => .ret true) fun ρ acc => match acc with | .dK _ _ => eD (vVar 5) (v1 negT (vGet (vFld [10] [119, 111, 114, 116, 104] (vVar 0)) (vVar 5))) ρ acc | _ => .fail))
      (vSeq (vIfS (vT (v2 eqT (vVar 1) (vC (.str [106, 111, 105, 110])))) (vSeq (vSetS 4 (vX (.lst []) [6, 7] (vSeqI (vFld [10] [109, 97, 114, 107, 115] (vVar 0))) (gNE 6) (fun _ => .ret true) (eCl [7] (vSeqI (vFld [10] [109, 97, 114, 107, 115] (vVar 0))) (gNE 7) (fun _ => .ret true) (eL (vTup (vCons (vVar 6) (vCons (vVar 7) vNil)))))))
      (vRet (vLc [6, 7] (vSeqI (vVar 4)) (gTE 2 (gsConsE (gNE 6) (gsConsE (gNE 7) gsNilE))) (fun _ => .ret true) (vMake 8 5 m_Join_init (vCons (vVar 6) (vCons (vVar 7) (vCons (vVar 2) (vCons (v2 addT (vGet (vVar 3) (vVar 6)) (vGet (vVar 3) (vVar 7))) vNil)))))))) vNext)
      (vSeq (vIfS (vT (v2 eqT (vVar 1) (vC (.str [112, 97, 114, 116])))) (vRet (vLc [5] (vSeqI (vFld [10] [109, 97, 114, 107, 115] (vVar 0))) (gNE 5) (fun _ => .ret true) (vMake 9 6 m_Part_init (vCons (vVar 5) (vCons (vVar 2) (vCons (vVar 2) (vCons (vGet (vVar 3) (vVar 5)) (vCons (vC (.int 0)) vNil)))))))) vNext)
      (vRet (vLc [5] (vSeqI (vFld [10] [109, 97, 114, 107, 115] (vVar 0))) (gNE 5) (fun _ => .ret true) (vMake 7 5 m_Step_init (vCons (vVar 1) (vCons (vVar 5) (vCons (vVar 2) (vCons (vGet (vVar 3) (vVar 5)) vNil)))))))))))
theorem ok_asking_rows (T : Tx A K mg) (TW : TxW A K w) (c_Join_init : MakX P w K mg base CX0 3 "Join" A.Join (spI (vcx A K w D) 5 [8] m_Join_init)) (c_Part_init : MakX P w K mg base CX0 3 "Part" A.Part (spI (vcx A K w D) 6 [9] m_Part_init)) (c_Step_init : MakX P w K mg base CX0 3 "Step" A.Step (spI (vcx A K w D) 5 [7] m_Step_init)) {f : Addr} {fd : FuncData} (F : Fun K "_asking_rows" "_asking_rows" s_asking_rows f fd) : FnOk P w K mg base CX0 5 f fd ["book", "kind"] (spM (vcx A K w D) 2 m_asking_rows) := by
  refine F.ok sc_asking_rows (fun vs H Q E h => ?_) (fun cdv A' outer s H vs Q E hr h => ?_)
  · obtain ⟨_, _, hl, _⟩ := h; exact hl
  · exact ⟨_, (pss_cons (ps_set (i := 2) sc_asking_rows.nd rfl (by first | exact .inl rfl | exact .inr rfl) (pe_fld (pv 0) rfl))
      (pss_cons (ps_set (i := 3) sc_asking_rows.nd rfl (by first | exact .inl rfl | exact .inr rfl) (pe_dc (own := [("mark", 5)]) (g := (gName 5)) rfl sc_asking_rows.nd (show PI _ _ _ (iAny K _) from pi_any (pe_fld (pv 0) rfl)) (blkOk_by (own := [("mark", 5)]) (N := ["book", "kind", "blank", "taken", "pairs", "mark", "here", "there"]) (sc := defScope s_asking_rows) (by decide +kernel)) (fun _ _ _ _ _ => pg_name (i := 5) sc_asking_rows.nd rfl (Or.inl rfl)) (fun _ _ _ _ _ => pts_nil) (fun _ _ _ _ _ => (pv 5)) (fun _ _ _ _ _ => (pe_un un_neg (pe_dget (hu_of hr) (pe_fld (pv 0) rfl) (pv 5) (fun _ _ => rfl))))))
      (pss_cons (ps_if (pt_cmpR (show OpR _ _ (rEqAny K) from op_eqAny hr.units) (pv 1) pe_str (nomark _)) (pss_cons (ps_setLc2 (i := 4) (own := [("here", 6), ("there", 7)]) (vs1 := [7]) (g := (gName 6)) (g1 := (gName 7)) rfl sc_asking_rows.nd rfl rfl (sw_true rfl rfl rfl (by decide +kernel)) (show PI _ _ _ (iAny K _) from pi_any (pe_fld (pv 0) rfl)) (blkOk_by (own := [("here", 6), ("there", 7)]) (N := ["book", "kind", "blank", "taken", "pairs", "mark", "here", "there"]) (sc := defScope s_asking_rows) (by decide +kernel)) (by decide) (fun _ _ _ _ _ => pg_name (i := 6) sc_asking_rows.nd rfl (Or.inl rfl)) (fun _ _ _ _ _ => pts_nil) (fun _ _ _ _ _ => (show PI _ _ _ (iAny K _) from pi_any (pe_fld (pv 0) rfl))) (fun _ _ _ _ _ => pg_name (i := 7) sc_asking_rows.nd rfl (Or.inl rfl)) (fun _ _ _ _ _ => pts_nil) (fun _ _ _ _ _ => (pe_tup (pa_cons (pv 6) (pa_cons (pv 7) pa_nil)))))
      (pss_one (ps_ret (pe_lc (own := [("here", 6), ("there", 7)]) (g := (gTup K 2 (gCons (gName 6) (gCons (gName 7) (gNil))))) rfl sc_asking_rows.nd (show PI _ _ _ (iAny K _) from pi_any (pv 4)) (blkOk_by (own := [("here", 6), ("there", 7)]) (N := ["book", "kind", "blank", "taken", "pairs", "mark", "here", "there"]) (sc := defScope s_asking_rows) (by decide +kernel)) (fun _ _ _ _ _ => (pg_tup (by rfl) (pgs_cons (pg_name (i := 6) sc_asking_rows.nd rfl (Or.inl rfl)) (pgs_cons (pg_name (i := 7) sc_asking_rows.nd rfl (Or.inl rfl)) pgs_nil)))) (fun _ _ _ _ _ => pts_nil) (fun _ _ _ _ _ => (pe_mkc c_Join_init hr (by decide) pass0 (pa_cons (pv 6) (pa_cons (pv 7) (pa_cons (pv 2) (pa_cons (pe_op (show OpR _ _ (rAddAny K) from op_addAny) (pe_dget (hu_of hr) (pv 3) (pv 6) (fun _ _ => rfl)) (pe_dget (hu_of hr) (pv 3) (pv 7) (fun _ _ => rfl))) pa_nil)))))))))) pss_nil)
      (pss_cons (ps_if (pt_cmpR (show OpR _ _ (rEqAny K) from op_eqAny hr.units) (pv 1) pe_str (nomark _)) (pss_one (ps_ret (pe_lc (own := [("mark", 5)]) (g := (gName 5)) rfl sc_asking_rows.nd (show PI _ _ _ (iAny K _) from pi_any (pe_fld (pv 0) rfl)) (blkOk_by (own := [("mark", 5)]) (N := ["book", "kind", "blank", "taken", "pairs", "mark", "here", "there"]) (sc := defScope s_asking_rows) (by decide +kernel)) (fun _ _ _ _ _ => pg_name (i := 5) sc_asking_rows.nd rfl (Or.inl rfl)) (fun _ _ _ _ _ => pts_nil) (fun _ _ _ _ _ => (pe_mkc c_Part_init hr (by decide) pass0 (pa_cons (pv 5) (pa_cons (pv 2) (pa_cons (pv 2) (pa_cons (pe_dget (hu_of hr) (pv 3) (pv 5) (fun _ _ => rfl)) (pa_cons pe_int pa_nil)))))))))) pss_nil)
      (pss_one (ps_ret (pe_lc (own := [("mark", 5)]) (g := (gName 5)) rfl sc_asking_rows.nd (show PI _ _ _ (iAny K _) from pi_any (pe_fld (pv 0) rfl)) (blkOk_by (own := [("mark", 5)]) (N := ["book", "kind", "blank", "taken", "pairs", "mark", "here", "there"]) (sc := defScope s_asking_rows) (by decide +kernel)) (fun _ _ _ _ _ => pg_name (i := 5) sc_asking_rows.nd rfl (Or.inl rfl)) (fun _ _ _ _ _ => pts_nil) (fun _ _ _ _ _ => (pe_mkc c_Step_init hr (by decide) pass0 (pa_cons (pv 1) (pa_cons (pv 5) (pa_cons (pv 2) (pa_cons (pe_dget (hu_of hr) (pv 3) (pv 5) (fun _ _ => rfl)) pa_nil))))))))))))),
      ss_run (E := E0) (N := ["book", "kind", "blank", "taken", "pairs", "mark", "here", "there"]) (mb := (vSeq (vSetS 2 (vFld [10] [98, 108, 97, 110, 107] (vVar 0)))
      (vSeq (vSetS 3 (vX (.dK [] []) [5] (vSeqI (vFld [10] [109, 97, 114, 107, 115] (vVar 0))) (gNE 5) (fun _ => .ret true) fun ρ acc => match acc with | .dK _ _ => eD (vVar 5) (v1 negT (vGet (vFld [10] [119, 111, 114, 116, 104] (vVar 0)) (vVar 5))) ρ acc | _ => .fail))
      (vSeq (vIfS (vT (v2 eqT (vVar 1) (vC (.str [106, 111, 105, 110])))) (vSeq (vSetS 4 (vX (.lst []) [6, 7] (vSeqI (vFld [10] [109, 97, 114, 107, 115] (vVar 0))) (gNE 6) (fun _ => .ret true) (eCl [7] (vSeqI (vFld [10] [109, 97, 114, 107, 115] (vVar 0))) (gNE 7) (fun _ => .ret true) (eL (vTup (vCons (vVar 6) (vCons (vVar 7) vNil)))))))
      (vRet (vLc [6, 7] (vSeqI (vVar 4)) (gTE 2 (gsConsE (gNE 6) (gsConsE (gNE 7) gsNilE))) (fun _ => .ret true) (vMake 8 5 m_Join_init (vCons (vVar 6) (vCons (vVar 7) (vCons (vVar 2) (vCons (v2 addT (vGet (vVar 3) (vVar 6)) (vGet (vVar 3) (vVar 7))) vNil)))))))) vNext)
      (vSeq (vIfS (vT (v2 eqT (vVar 1) (vC (.str [112, 97, 114, 116])))) (vRet (vLc [5] (vSeqI (vFld [10] [109, 97, 114, 107, 115] (vVar 0))) (gNE 5) (fun _ => .ret true) (vMake 9 6 m_Part_init (vCons (vVar 5) (vCons (vVar 2) (vCons (vVar 2) (vCons (vGet (vVar 3) (vVar 5)) (vCons (vC (.int 0)) vNil)))))))) vNext)
      (vRet (vLc [5] (vSeqI (vFld [10] [109, 97, 114, 107, 115] (vVar 0))) (gNE 5) (fun _ => .ret true) (vMake 7 5 m_Step_init (vCons (vVar 1) (vCons (vVar 5) (vCons (vVar 2) (vCons (vGet (vVar 3) (vVar 5)) vNil)))))))))))) (ss_seq (ss_setS 2 (se_fld lt27 (fa_blank T) (se_var 0)))
      (ss_seq (ss_setS 3 (SF.se (sf_dc (si_any (se_fld lt23 (fa_marks T) (se_var 0))) (sge_name 5 (by decide)) st_yes (se_var 5) (se_un ru_neg (se_get (se_fld lt28 (fa_worth T) (se_var 0)) (se_var 5))))))
      (ss_seq (ss_if (st_test (se_op ro_eq (se_var 1) (se_str lt17))) (ss_seq (ss_setS 4 (SF.se (sf_lc2 (si_any (se_fld lt23 (fa_marks T) (se_var 0))) (sge_name 6 (by decide)) st_yes (si_any (se_fld lt23 (fa_marks T) (se_var 0))) (sge_name 7 (by decide)) st_yes (se_tup (sa_cons' (se_var 6) (sa_cons' (se_var 7) sa_nil'))))))
      (ss_ret (SF.se (sf_lc (si_any (se_var 4)) (sge_tup (sges_cons (sge_name 6 (by decide)) (sges_cons (sge_name 7 (by decide)) sges_nil))) st_yes (se_make rfl (by decide) (sa_cons' (se_var 6) (sa_cons' (se_var 7) (sa_cons' (se_var 2) (sa_cons' (se_op ro_add (se_get (se_var 3) (se_var 6)) (se_get (se_var 3) (se_var 7))) sa_nil'))))))))) ss_next)
      (ss_seq (ss_if (st_test (se_op ro_eq (se_var 1) (se_str lt21))) (ss_ret (SF.se (sf_lc (si_any (se_fld lt23 (fa_marks T) (se_var 0))) (sge_name 5 (by decide)) st_yes (se_make rfl (by decide) (sa_cons' (se_var 5) (sa_cons' (se_var 2) (sa_cons' (se_var 2) (sa_cons' (se_get (se_var 3) (se_var 5)) (sa_cons' se_int sa_nil'))))))))) ss_next)
      (ss_ret (SF.se (sf_lc (si_any (se_fld lt23 (fa_marks T) (se_var 0))) (sge_name 5 (by decide)) st_yes (se_make rfl (by decide) (sa_cons' (se_var 1) (sa_cons' (se_var 5) (sa_cons' (se_var 2) (sa_cons' (se_get (se_var 3) (se_var 5)) sa_nil')))))))))))) h (by decide)⟩
theorem sc_Book_asking : FnScope ["self", "kinds", "asked", "keeps", "rows", "word", "kind", "row"] ["self", "kinds"] (defScope s_Book_asking) := ⟨rfl, rfl, rfl, by decide +kernel, rfl, by decide +kernel, by decide +kernel⟩
def m_Book_asking : List T → Prog T := runF 8
  (vSeq (vSetS 2 (v1 sortSetT (vVar 1)))
      (vSeq (vSetS 3 (vLc [5] (vSeqI (vFld [10] [107, 101, 101, 112, 115] (vVar 0))) (gNE 5) (vT (v2 (inF true) (vVar 5) (vVar 2))) (vVar 5)))
      (vSeq (vSetS 4 (vX (.lst []) [6, 7] (vSeqI (vVar 2)) (gNE 6) (fun _ => .ret true) (eCl [7] (vSeqI (vCall 2 m_asking_rows (vCons (vVar 0) (vCons (vVar 6) vNil)))) (gNE 7) (fun _ => .ret true) (eL (vVar 7)))))
      (vRet (vMake 10 5 m_Book_init (vCons (vFld [10] [109, 97, 114, 107, 115] (vVar 0)) (vCons (vFld [10] [99, 111, 117, 110, 116, 101, 100] (vVar 0)) (vCons (vVar 3) (vCons (vLst (vStar (vVar 4) (vStar (vFld [10] [114, 111, 119, 115] (vVar 0)) vNil))) vNil)))))))))
theorem ok_Book_asking (T : Tx A K mg) (TW : TxW A K w) (c_asking_rows : CalX P w K mg base CX0 5 "_asking_rows" (spM (vcx A K w D) 2 m_asking_rows)) (c_Book_init : MakX P w K mg base CX0 4 "Book" A.Book (spI (vcx A K w D) 5 [10] m_Book_init)) {f : Addr} {fd : FuncData} (F : Fun K "asking" "Book.asking" s_Book_asking f fd) : FnOk P w K mg base CX0 6 f fd ["self", "kinds"] (spM (vcx A K w D) 2 m_Book_asking) := by
  refine F.ok sc_Book_asking (fun vs H Q E h => ?_) (fun cdv A' outer s H vs Q E hr h => ?_)
  · obtain ⟨_, _, hl, _⟩ := h; exact hl
  · exact ⟨_, (pss_cons (ps_set (i := 2) sc_Book_asking.nd rfl (by first | exact .inl rfl | exact .inr rfl) (pe_callB (cr_sortedZ rfl) (by rfl) T.z_sorted (by decide +kernel) (pa_cons (pe_callTy (show CallR _ _ (rSetS K P w) from cr_setS rfl) (by rfl) T.z_set (by decide +kernel) (pa_cons (pv 1) pa_nil)) pa_nil)))
      (pss_cons (ps_setLc (i := 3) (own := [("word", 5)]) (g := (gName 5)) rfl sc_Book_asking.nd rfl rfl (sw_true rfl rfl rfl (by decide +kernel)) (show PI _ _ _ (iAny K _) from pi_any (pe_fld (pv 0) rfl)) (blkOk_by (own := [("word", 5)]) (N := ["self", "kinds", "asked", "keeps", "rows", "word", "kind", "row"]) (sc := defScope s_Book_asking) (by decide +kernel)) (fun _ _ _ _ _ => pg_name (i := 5) sc_Book_asking.nd rfl (Or.inl rfl)) (fun _ _ _ _ _ => pts_one (pt_cmpR (show OpR _ _ (rIn K true) from op_notIn_seq) (pv 5) (pv 2) (by rfl))) (fun _ _ _ _ _ => (pv 5)))
      (pss_cons (ps_setLc2 (i := 4) (own := [("kind", 6), ("row", 7)]) (vs1 := [7]) (g := (gName 6)) (g1 := (gName 7)) rfl sc_Book_asking.nd rfl rfl (sw_true rfl rfl rfl (by decide +kernel)) (show PI _ _ _ (iAny K _) from pi_any (pv 2)) (blkOk_by (own := [("kind", 6), ("row", 7)]) (N := ["self", "kinds", "asked", "keeps", "rows", "word", "kind", "row"]) (sc := defScope s_Book_asking) (by decide +kernel)) (by decide) (fun _ _ _ _ _ => pg_name (i := 6) sc_Book_asking.nd rfl (Or.inl rfl)) (fun _ _ _ _ _ => pts_nil) (fun _ _ _ _ _ => (show PI _ _ _ (iAny K _) from pi_any (pe_cal c_asking_rows hr (by decide) pass0 (pa_cons (pv 0) (pa_cons (pv 6) pa_nil))))) (fun _ _ _ _ _ => pg_name (i := 7) sc_Book_asking.nd rfl (Or.inl rfl)) (fun _ _ _ _ _ => pts_nil) (fun _ _ _ _ _ => (pv 7)))
      (pss_one (ps_ret (pe_mkc c_Book_init hr (by decide) pass0 (pa_cons (pe_fld (pv 0) rfl) (pa_cons (pe_fld (pv 0) rfl) (pa_cons (pv 3) (pa_cons (pe_lst (StX.pa_star (pv 4) (StX.pa_star (pe_fld (pv 0) rfl) pa_nil))) pa_nil)))))))))),
      ss_run (E := E0) (N := ["self", "kinds", "asked", "keeps", "rows", "word", "kind", "row"]) (mb := (vSeq (vSetS 2 (v1 sortSetT (vVar 1)))
      (vSeq (vSetS 3 (vLc [5] (vSeqI (vFld [10] [107, 101, 101, 112, 115] (vVar 0))) (gNE 5) (vT (v2 (inF true) (vVar 5) (vVar 2))) (vVar 5)))
      (vSeq (vSetS 4 (vX (.lst []) [6, 7] (vSeqI (vVar 2)) (gNE 6) (fun _ => .ret true) (eCl [7] (vSeqI (vCall 2 m_asking_rows (vCons (vVar 0) (vCons (vVar 6) vNil)))) (gNE 7) (fun _ => .ret true) (eL (vVar 7)))))
      (vRet (vMake 10 5 m_Book_init (vCons (vFld [10] [109, 97, 114, 107, 115] (vVar 0)) (vCons (vFld [10] [99, 111, 117, 110, 116, 101, 100] (vVar 0)) (vCons (vVar 3) (vCons (vLst (vStar (vVar 4) (vStar (vFld [10] [114, 111, 119, 115] (vVar 0)) vNil))) vNil)))))))))) (ss_seq (ss_setS 2 (se_sortSet (se_var 1)))
      (ss_seq (ss_setS 3 (SF.se (sf_lc (si_any (se_fld lt25 (fa_keeps T) (se_var 0))) (sge_name 5 (by decide)) (st_test (se_op (ro_inF true) (se_var 5) (se_var 2))) (se_var 5))))
      (ss_seq (ss_setS 4 (SF.se (sf_lc2 (si_any (se_var 2)) (sge_name 6 (by decide)) st_yes (si_any (se_call (sa_cons' (se_var 0) (sa_cons' (se_var 6) sa_nil')))) (sge_name 7 (by decide)) st_yes (se_var 7))))
      (ss_ret (se_make rfl (by decide) (sa_cons' (se_fld lt23 (fa_marks T) (se_var 0)) (sa_cons' (se_fld lt24 (fa_counted T) (se_var 0)) (sa_cons' (se_var 3) (sa_cons' (se_lst (sa_star (se_var 4) (sa_star (se_fld lt26 (fa_rows T) (se_var 0)) sa_nil'))) sa_nil'))))))))) h (by decide)⟩
theorem sc_law : FnScope ["_law_script", "_law_zturn", "_law_zone", "_law_ztwo", "_law_zstep", "_law_zjoin", "_law_zpart", "_law_zbook"] ["_law_script"] (defScope s_law) := ⟨rfl, rfl, rfl, by decide +kernel, rfl, by decide +kernel, by decide +kernel⟩
def mb_law_0 : MS :=
  (vSeq (vSetS 4 (vMake 7 5 m_Step_init (vPerm [3, 2, 1, 0] 4 (vCons (vVar 2) (vCons (vC (.str [105, 110])) (vCons (vC (.str [97, 110, 121])) (vCons (vC (.str [108, 97, 116, 101, 32, 121, 101, 115])) vNil)))))))
      (vSeq (vSetS 5 (vMake 8 5 m_Join_init (vPerm [3, 2, 0, 1] 4 (vCons (vC (.str [111, 116, 104, 101, 114])) (vCons (vVar 3) (vCons (vC (.str [105, 110])) (vCons (vC (.str [110, 111])) vNil)))))))
      (vSeq (vSetS 6 (vMake 9 6 m_Part_init (vPerm [4, 3, 2, 1, 0] 5 (vCons (vVar 2) (vCons (vVar 3) (vCons (vC (.str [115, 97, 109, 101])) (vCons (vC (.str [110, 111])) (vCons (vC (.str [105, 110])) vNil))))))))
      (vSeq (vIfS (vOrT (vT (vOpP (eqOwnP true 7 2 m_Row_eq (isInsC 7) (eqOwnP true 8 2 m_Row_eq (isInsC 8) (eqOwnP true 9 2 m_Row_eq (isInsC 9) (eqOwnP true 10 2 m_Book_eq (isInsC 10) (fun x y => opt (neT x y)))))) (vVar 4) (vMake 7 5 m_Step_init (vCons (vC (.str [108, 97, 116, 101, 32, 121, 101, 115])) (vCons (vC (.str [97, 110, 121])) (vCons (vC (.str [105, 110])) (vCons (vVar 2) vNil))))))) (vT (vOpP (eqOwnP true 7 2 m_Row_eq (isInsC 7) (eqOwnP true 8 2 m_Row_eq (isInsC 8) (eqOwnP true 9 2 m_Row_eq (isInsC 9) (eqOwnP true 10 2 m_Book_eq (isInsC 10) (fun x y => opt (neT x y)))))) (vVar 5) (vMake 8 5 m_Join_init (vCons (vC (.str [110, 111])) (vCons (vC (.str [105, 110])) (vCons (vC (.str [111, 116, 104, 101, 114])) (vCons (vVar 3) vNil)))))))) (vRet (vC (.bl false))) vNext)
      (vSeq (vIfS (vOrT (vT (vOpP (eqOwnP true 7 2 m_Row_eq (isInsC 7) (eqOwnP true 8 2 m_Row_eq (isInsC 8) (eqOwnP true 9 2 m_Row_eq (isInsC 9) (eqOwnP true 10 2 m_Book_eq (isInsC 10) (fun x y => opt (neT x y)))))) (vVar 6) (vMake 9 6 m_Part_init (vCons (vC (.str [105, 110])) (vCons (vC (.str [110, 111])) (vCons (vC (.str [115, 97, 109, 101])) (vCons (vVar 3) (vCons (vVar 2) vNil)))))))) (vT (vOpP (eqOwnP true 7 2 m_Row_eq (isInsC 7) (eqOwnP true 8 2 m_Row_eq (isInsC 8) (eqOwnP true 9 2 m_Row_eq (isInsC 9) (eqOwnP true 10 2 m_Book_eq (isInsC 10) (fun x y => opt (neT x y)))))) (vCMeth 6 2 m_Row_read (vPerm [0] 1 (vCons (vCBP (strOwnP 9 1 m_Row_str (strOwnP 10 1 m_Book_str (fun ts => opt (strT ts)))) (vCons (vVar 6) vNil)) vNil))) (vVar 6)))) (vRet (vC (.bl false))) vNext)
      (vSeq (vSetS 7 (vMake 10 5 m_Book_init (vPerm [3, 2, 1, 0] 4 (vCons (vLst (vCons (vVar 4) (vCons (vVar 5) (vCons (vVar 6) vNil)))) (vCons (vLst (vCons (vC (.str [99, 117, 116])) vNil)) (vCons (vLst (vCons (vC (.str [105, 110])) vNil)) (vCons (vLst (vCons (vC (.str [110, 111])) (vCons (vC (.str [105, 110])) vNil))) vNil)))))))
      (vSeq (vIfS (vOrT (vT (vOpP (eqOwnP true 7 2 m_Row_eq (isInsC 7) (eqOwnP true 8 2 m_Row_eq (isInsC 8) (eqOwnP true 9 2 m_Row_eq (isInsC 9) (eqOwnP true 10 2 m_Book_eq (isInsC 10) (fun x y => opt (neT x y)))))) (vVar 7) (vMake 10 5 m_Book_init (vCons (vLst (vCons (vC (.str [110, 111])) (vCons (vC (.str [105, 110])) vNil))) (vCons (vLst (vCons (vC (.str [105, 110])) vNil)) (vCons (vLst (vCons (vC (.str [99, 117, 116])) vNil)) (vCons (vLst (vCons (vVar 4) (vCons (vVar 5) (vCons (vVar 6) vNil)))) vNil))))))) (vT (vOpP (eqOwnP true 7 2 m_Row_eq (isInsC 7) (eqOwnP true 8 2 m_Row_eq (isInsC 8) (eqOwnP true 9 2 m_Row_eq (isInsC 9) (eqOwnP true 10 2 m_Book_eq (isInsC 10) (fun x y => opt (neT x y)))))) (vCMeth 10 2 m_Book_read (vPerm [0] 1 (vCons (vCBP (strOwnP 9 1 m_Row_str (strOwnP 10 1 m_Book_str (fun ts => opt (strT ts)))) (vCons (vVar 7) vNil)) vNil))) (vVar 7)))) (vRet (vC (.bl false))) vNext)
      (vSeq (vIfS (vT (vOpP (eqOwnP true 7 2 m_Row_eq (isInsC 7) (eqOwnP true 8 2 m_Row_eq (isInsC 8) (eqOwnP true 9 2 m_Row_eq (isInsC 9) (eqOwnP true 10 2 m_Book_eq (isInsC 10) (fun x y => opt (neT x y)))))) (vMeth 10 [115, 116, 101, 112] 3 m_Book_step (vVar 7) (vPerm [1, 0] 2 (vCons (vC (.str [110, 111])) (vCons (vC (.str [108, 97, 116, 101, 32, 121, 101, 115])) vNil)))) (vTup (vCons (vC (.str [105, 110])) (vCons (vVar 2) vNil))))) (vRet (vC (.bl false))) vNext)
      (vSeq (vIfS (vT (vOpP (eqOwnP true 7 2 m_Row_eq (isInsC 7) (eqOwnP true 8 2 m_Row_eq (isInsC 8) (eqOwnP true 9 2 m_Row_eq (isInsC 9) (eqOwnP true 10 2 m_Book_eq (isInsC 10) (fun x y => opt (neT x y)))))) (vMeth 10 [106, 111, 105, 110, 101, 100] 3 m_Book_joined (vVar 7) (vPerm [1, 0] 2 (vCons (vC (.str [105, 110])) (vCons (vC (.str [110, 111])) vNil)))) (vTup (vCons (vC (.str [105, 110])) (vCons (vVar 3) vNil))))) (vRet (vC (.bl false))) vNext)
      (vSeq (vIfS (vOrT (vT (vOpP (eqOwnP true 7 2 m_Row_eq (isInsC 7) (eqOwnP true 8 2 m_Row_eq (isInsC 8) (eqOwnP true 9 2 m_Row_eq (isInsC 9) (eqOwnP true 10 2 m_Book_eq (isInsC 10) (fun x y => opt (neT x y)))))) (vMeth 10 [112, 97, 114, 116, 101, 100] 2 m_Book_parted (vVar 7) (vPerm [0] 1 (vCons (vC (.str [105, 110])) vNil))) (vTup (vCons (vC (.str [110, 111])) (vCons (vC (.str [105, 110])) (vCons (vVar 3) (vCons (vVar 2) vNil))))))) (vT (vOpP (eqOwnP true 7 2 m_Row_eq (isInsC 7) (eqOwnP true 8 2 m_Row_eq (isInsC 8) (eqOwnP true 9 2 m_Row_eq (isInsC 9) (eqOwnP true 10 2 m_Book_eq (isInsC 10) (fun x y => opt (neT x y)))))) (vMeth 10 [119, 105, 116, 104, 111, 117, 116] 2 m_Book_without (vVar 7) (vPerm [0] 1 (vCons (vC (.int 1)) vNil))) (vMeth 10 [119, 105, 116, 104, 111, 117, 116] 2 m_Book_without (vVar 7) (vCons (vC (.int 1)) vNil))))) (vRet (vC (.bl false))) vNext)
      (vIfS (vT (vOpP (eqOwnP true 7 2 m_Row_eq (isInsC 7) (eqOwnP true 8 2 m_Row_eq (isInsC 8) (eqOwnP true 9 2 m_Row_eq (isInsC 9) (eqOwnP true 10 2 m_Book_eq (isInsC 10) (fun x y => opt (neT x y)))))) (vMeth 10 [97, 115, 107, 105, 110, 103] 2 m_Book_asking (vVar 7) (vPerm [0] 1 (vCons (vLst (vCons (vC (.str [106, 111, 105, 110])) vNil)) vNil))) (vMeth 10 [97, 115, 107, 105, 110, 103] 2 m_Book_asking (vVar 7) (vCons (vLst (vCons (vC (.str [106, 111, 105, 110])) vNil)) vNil)))) (vRet (vC (.bl false))) vNext)))))))))))
def m_law : List T → Prog T := runF 8
  (vSeq (vFor (vRng1 (vCons (vC (.int 4)) vNil)) (gN 1) (vClear [2, 3, 4, 5, 6, 7] (vSeq (vPs (vpSh [] 2 (vDrawR (-3) 7 (vCons (vVar 0) (vCons (vVar 1) vNil))) (vpSh [2] 3 (vDrawR (-3) 7 (vCons (vVar 0) (vCons (v2 addT (vVar 1) (vC (.int 9))) vNil))) vpNil)))
      (vClear [1] mb_law_0))))
      (vRet (vC (.bl true))))
theorem ok_law (T : Tx A K mg) (TW : TxW A K w) (c_law_number : CalX P w K mg base CX0 1 "_law_number" D) (c_Step_init : MakX P w K mg base CX0 3 "Step" A.Step (spI (vcx A K w D) 5 [7] m_Step_init)) {fd_Book_eq : FuncData} (F_Book_eq : FnOk P w K mg base CX0 8 A.f_Book_eq fd_Book_eq ["self", "other"] (spM (vcx A K w D) 2 m_Book_eq)) (b_Book_eq : Binds K fd_Book_eq ["self", "other"] []) {fd_Row_eq : FuncData} (F_Row_eq : FnOk P w K mg base CX0 4 A.f_Row_eq fd_Row_eq ["self", "other"] (spM (vcx A K w D) 2 m_Row_eq)) (b_Row_eq : Binds K fd_Row_eq ["self", "other"] []) (c_Join_init : MakX P w K mg base CX0 3 "Join" A.Join (spI (vcx A K w D) 5 [8] m_Join_init)) (c_Part_init : MakX P w K mg base CX0 3 "Part" A.Part (spI (vcx A K w D) 6 [9] m_Part_init)) {fd_Row_read : FuncData} (F_Row_read : FnOk P w K mg base CX0 7 A.f_Row_read fd_Row_read ["cls", "text"] (spM (vcx A K w D) 2 m_Row_read)) (b_Row_read : Binds K fd_Row_read ["cls", "text"] []) {fd_Book_str : FuncData} (F_Book_str : FnOk P w K mg base CX0 5 A.f_Book_str fd_Book_str ["self"] (spM (vcx A K w D) 1 m_Book_str)) (b_Book_str : Binds K fd_Book_str ["self"] []) {fd_Row_str : FuncData} (F_Row_str : FnOk P w K mg base CX0 1 A.f_Row_str fd_Row_str ["self"] (spM (vcx A K w D) 1 m_Row_str)) (b_Row_str : Binds K fd_Row_str ["self"] []) (c_Book_init : MakX P w K mg base CX0 4 "Book" A.Book (spI (vcx A K w D) 5 [10] m_Book_init)) {fd_Book_read : FuncData} (F_Book_read : FnOk P w K mg base CX0 9 A.f_Book_read fd_Book_read ["cls", "text"] (spM (vcx A K w D) 2 m_Book_read)) (b_Book_read : Binds K fd_Book_read ["cls", "text"] []) {fd_Book_step : FuncData} (F_Book_step : FnOk P w K mg base CX0 2 A.f_Book_step fd_Book_step ["self", "kind", "mark"] (spM (vcx A K w D) 3 m_Book_step)) (b_Book_step : Binds K fd_Book_step ["self", "kind", "mark"] []) {fd_Book_joined : FuncData} (F_Book_joined : FnOk P w K mg base CX0 2 A.f_Book_joined fd_Book_joined ["self", "here", "there"] (spM (vcx A K w D) 3 m_Book_joined)) (b_Book_joined : Binds K fd_Book_joined ["self", "here", "there"] []) {fd_Book_parted : FuncData} (F_Book_parted : FnOk P w K mg base CX0 2 A.f_Book_parted fd_Book_parted ["self", "mark"] (spM (vcx A K w D) 2 m_Book_parted)) (b_Book_parted : Binds K fd_Book_parted ["self", "mark"] []) {fd_Book_without : FuncData} (F_Book_without : FnOk P w K mg base CX0 6 A.f_Book_without fd_Book_without ["self", "at"] (spM (vcx A K w D) 2 m_Book_without)) (b_Book_without : Binds K fd_Book_without ["self", "at"] []) {fd_Book_asking : FuncData} (F_Book_asking : FnOk P w K mg base CX0 6 A.f_Book_asking fd_Book_asking ["self", "kinds"] (spM (vcx A K w D) 2 m_Book_asking)) (b_Book_asking : Binds K fd_Book_asking ["self", "kinds"] []) (k_Step_init_add_then_old_kind : MakKX P w K mg base CX0 3 "Step" A.Step (spI (vcx A K w D) 5 [7] m_Step_init) ["add", "then", "old", "kind"] [3, 2, 1, 0]) (k_Join_init_then_add_there_here : MakKX P w K mg base CX0 3 "Join" A.Join (spI (vcx A K w D) 5 [8] m_Join_init) ["then", "add", "there", "here"] [3, 2, 0, 1]) (k_Part_init_more_add_right_left_old : MakKX P w K mg base CX0 3 "Part" A.Part (spI (vcx A K w D) 6 [9] m_Part_init) ["more", "add", "right", "left", "old"] [4, 3, 2, 1, 0]) (k_Row_read_text : KbX K fd_Row_read ["cls", "text"] 1 ["text"] [0]) (k_Book_init_rows_keeps_counted_marks : MakKX P w K mg base CX0 4 "Book" A.Book (spI (vcx A K w D) 5 [10] m_Book_init) ["rows", "keeps", "counted", "marks"] [3, 2, 1, 0]) (k_Book_read_text : KbX K fd_Book_read ["cls", "text"] 1 ["text"] [0]) (k_Book_step_mark_kind : KbX K fd_Book_step ["self", "kind", "mark"] 1 ["mark", "kind"] [1, 0]) (k_Book_joined_there_here : KbX K fd_Book_joined ["self", "here", "there"] 1 ["there", "here"] [1, 0]) (k_Book_parted_mark : KbX K fd_Book_parted ["self", "mark"] 1 ["mark"] [0]) (k_Book_without_at : KbX K fd_Book_without ["self", "at"] 1 ["at"] [0]) (k_Book_asking_kinds : KbX K fd_Book_asking ["self", "kinds"] 1 ["kinds"] [0]) {f : Addr} {fd : FuncData} (F : Fun K "law" "law" s_law f fd) : FnOk P w K mg base CX0 10 f fd ["_law_script"] (spM (vcx A K w D) 1 m_law) := by
  refine F.ok sc_law (fun vs H Q E h => ?_) (fun cdv A' outer s H vs Q E hr h => ?_)
  · obtain ⟨_, _, hl, _⟩ := h; exact hl
  · exact ⟨_, (pss_cons (ps_for PassesOwn.never rfl (pi_range1 (by rfl) T.z_range (pa_cons pe_int pa_nil)) (pg_name (i := 1) sc_law.nd rfl (by first | exact .inl rfl | exact .inr rfl)) (pss_cons (ps_par (i := 2) (j := 3) (by rfl) sc_law.nd rfl rfl (by decide) rfl rfl (pa_cons (pe_cal c_law_number hr (by decide) pass0 (pa_cons (pv 0) (pa_cons (pv 1) pa_nil))) (pa_cons (pe_cal c_law_number hr (by decide) pass0 (pa_cons (pv 0) (pa_cons (pe_op (show OpR _ _ (rAddAny K) from op_addAny) (pv 1) pe_int) pa_nil))) pa_nil)) (by rfl))
      (pss_cons (ps_set (i := 4) sc_law.nd rfl (by first | exact .inl rfl | exact .inr rfl) (pe_mkcK k_Step_init_add_then_old_kind hr (by decide) pass0 (pk_cons (pv 2) (pk_cons pe_str (pk_cons pe_str (pk_cons pe_str pk_nil))))))
      (pss_cons (ps_set (i := 5) sc_law.nd rfl (by first | exact .inl rfl | exact .inr rfl) (pe_mkcK k_Join_init_then_add_there_here hr (by decide) pass0 (pk_cons pe_str (pk_cons (pv 3) (pk_cons pe_str (pk_cons pe_str pk_nil))))))
      (pss_cons (ps_set (i := 6) sc_law.nd rfl (by first | exact .inl rfl | exact .inr rfl) (pe_mkcK k_Part_init_more_add_right_left_old hr (by decide) pass0 (pk_cons (pv 2) (pk_cons (pv 3) (pk_cons pe_str (pk_cons pe_str (pk_cons pe_str pk_nil)))))))
      (pss_cons (ps_if (PW.pt (pw_or (pt_cmpR (show OpR _ _ (Vi.rSum (rOwn K A.Step (spM (vcx A K w D) 2 m_Row_eq) E0 (fun b => !b)) (Vi.rSum (rOwn K A.Join (spM (vcx A K w D) 2 m_Row_eq) E0 (fun b => !b)) (Vi.rSum (rOwn K A.Part (spM (vcx A K w D) 2 m_Row_eq) E0 (fun b => !b)) (Vi.rSum (rOwn K A.Book (spM (vcx A K w D) 2 m_Book_eq) E0 (fun b => !b)) (rNeAny K))))) from opr_or (op_own_ne (C := A.Step) (sp := (spM (vcx A K w D) 2 m_Row_eq)) (E := E0) ⟨T.m_Step_eq, T.o_Step.ne, T.i_f_Row_eq, T.o_Step.mo⟩ F_Row_eq (hr.mono (by decide)) b_Row_eq pass0) (opr_or (op_own_ne (C := A.Join) (sp := (spM (vcx A K w D) 2 m_Row_eq)) (E := E0) ⟨T.m_Join_eq, T.o_Join.ne, T.i_f_Row_eq, T.o_Join.mo⟩ F_Row_eq (hr.mono (by decide)) b_Row_eq pass0) (opr_or (op_own_ne (C := A.Part) (sp := (spM (vcx A K w D) 2 m_Row_eq)) (E := E0) ⟨T.m_Part_eq, T.o_Part.ne, T.i_f_Row_eq, T.o_Part.mo⟩ F_Row_eq (hr.mono (by decide)) b_Row_eq pass0) (opr_or (op_own_ne (C := A.Book) (sp := (spM (vcx A K w D) 2 m_Book_eq)) (E := E0) ⟨T.m_Book_eq, T.o_Book.ne, T.i_f_Book_eq, T.o_Book.mo⟩ F_Book_eq (hr.mono (by decide)) b_Book_eq pass0) (op_neAny hr.units))))) (pv 4) (pe_mkc c_Step_init hr (by decide) pass0 (pa_cons pe_str (pa_cons pe_str (pa_cons pe_str (pa_cons (pv 2) pa_nil))))) (nomark _)) (pw_or1 (pt_cmpR (show OpR _ _ (Vi.rSum (rOwn K A.Step (spM (vcx A K w D) 2 m_Row_eq) E0 (fun b => !b)) (Vi.rSum (rOwn K A.Join (spM (vcx A K w D) 2 m_Row_eq) E0 (fun b => !b)) (Vi.rSum (rOwn K A.Part (spM (vcx A K w D) 2 m_Row_eq) E0 (fun b => !b)) (Vi.rSum (rOwn K A.Book (spM (vcx A K w D) 2 m_Book_eq) E0 (fun b => !b)) (rNeAny K))))) from opr_or (op_own_ne (C := A.Step) (sp := (spM (vcx A K w D) 2 m_Row_eq)) (E := E0) ⟨T.m_Step_eq, T.o_Step.ne, T.i_f_Row_eq, T.o_Step.mo⟩ F_Row_eq (hr.mono (by decide)) b_Row_eq pass0) (opr_or (op_own_ne (C := A.Join) (sp := (spM (vcx A K w D) 2 m_Row_eq)) (E := E0) ⟨T.m_Join_eq, T.o_Join.ne, T.i_f_Row_eq, T.o_Join.mo⟩ F_Row_eq (hr.mono (by decide)) b_Row_eq pass0) (opr_or (op_own_ne (C := A.Part) (sp := (spM (vcx A K w D) 2 m_Row_eq)) (E := E0) ⟨T.m_Part_eq, T.o_Part.ne, T.i_f_Row_eq, T.o_Part.mo⟩ F_Row_eq (hr.mono (by decide)) b_Row_eq pass0) (opr_or (op_own_ne (C := A.Book) (sp := (spM (vcx A K w D) 2 m_Book_eq)) (E := E0) ⟨T.m_Book_eq, T.o_Book.ne, T.i_f_Book_eq, T.o_Book.mo⟩ F_Book_eq (hr.mono (by decide)) b_Book_eq pass0) (op_neAny hr.units))))) (pv 5) (pe_mkc c_Join_init hr (by decide) pass0 (pa_cons pe_str (pa_cons pe_str (pa_cons pe_str (pa_cons (pv 3) pa_nil))))) (nomark _))))) (pss_one (ps_ret pe_bl)) pss_nil)
      (pss_cons (ps_if (PW.pt (pw_or (pt_cmpR (show OpR _ _ (Vi.rSum (rOwn K A.Step (spM (vcx A K w D) 2 m_Row_eq) E0 (fun b => !b)) (Vi.rSum (rOwn K A.Join (spM (vcx A K w D) 2 m_Row_eq) E0 (fun b => !b)) (Vi.rSum (rOwn K A.Part (spM (vcx A K w D) 2 m_Row_eq) E0 (fun b => !b)) (Vi.rSum (rOwn K A.Book (spM (vcx A K w D) 2 m_Book_eq) E0 (fun b => !b)) (rNeAny K))))) from opr_or (op_own_ne (C := A.Step) (sp := (spM (vcx A K w D) 2 m_Row_eq)) (E := E0) ⟨T.m_Step_eq, T.o_Step.ne, T.i_f_Row_eq, T.o_Step.mo⟩ F_Row_eq (hr.mono (by decide)) b_Row_eq pass0) (opr_or (op_own_ne (C := A.Join) (sp := (spM (vcx A K w D) 2 m_Row_eq)) (E := E0) ⟨T.m_Join_eq, T.o_Join.ne, T.i_f_Row_eq, T.o_Join.mo⟩ F_Row_eq (hr.mono (by decide)) b_Row_eq pass0) (opr_or (op_own_ne (C := A.Part) (sp := (spM (vcx A K w D) 2 m_Row_eq)) (E := E0) ⟨T.m_Part_eq, T.o_Part.ne, T.i_f_Row_eq, T.o_Part.mo⟩ F_Row_eq (hr.mono (by decide)) b_Row_eq pass0) (opr_or (op_own_ne (C := A.Book) (sp := (spM (vcx A K w D) 2 m_Book_eq)) (E := E0) ⟨T.m_Book_eq, T.o_Book.ne, T.i_f_Book_eq, T.o_Book.mo⟩ F_Book_eq (hr.mono (by decide)) b_Book_eq pass0) (op_neAny hr.units))))) (pv 6) (pe_mkc c_Part_init hr (by decide) pass0 (pa_cons pe_str (pa_cons pe_str (pa_cons pe_str (pa_cons (pv 3) (pa_cons (pv 2) pa_nil)))))) (nomark _)) (pw_or1 (pt_cmpR (show OpR _ _ (Vi.rSum (rOwn K A.Step (spM (vcx A K w D) 2 m_Row_eq) E0 (fun b => !b)) (Vi.rSum (rOwn K A.Join (spM (vcx A K w D) 2 m_Row_eq) E0 (fun b => !b)) (Vi.rSum (rOwn K A.Part (spM (vcx A K w D) 2 m_Row_eq) E0 (fun b => !b)) (Vi.rSum (rOwn K A.Book (spM (vcx A K w D) 2 m_Book_eq) E0 (fun b => !b)) (rNeAny K))))) from opr_or (op_own_ne (C := A.Step) (sp := (spM (vcx A K w D) 2 m_Row_eq)) (E := E0) ⟨T.m_Step_eq, T.o_Step.ne, T.i_f_Row_eq, T.o_Step.mo⟩ F_Row_eq (hr.mono (by decide)) b_Row_eq pass0) (opr_or (op_own_ne (C := A.Join) (sp := (spM (vcx A K w D) 2 m_Row_eq)) (E := E0) ⟨T.m_Join_eq, T.o_Join.ne, T.i_f_Row_eq, T.o_Join.mo⟩ F_Row_eq (hr.mono (by decide)) b_Row_eq pass0) (opr_or (op_own_ne (C := A.Part) (sp := (spM (vcx A K w D) 2 m_Row_eq)) (E := E0) ⟨T.m_Part_eq, T.o_Part.ne, T.i_f_Row_eq, T.o_Part.mo⟩ F_Row_eq (hr.mono (by decide)) b_Row_eq pass0) (opr_or (op_own_ne (C := A.Book) (sp := (spM (vcx A K w D) 2 m_Book_eq)) (E := E0) ⟨T.m_Book_eq, T.o_Book.ne, T.i_f_Book_eq, T.o_Book.mo⟩ F_Book_eq (hr.mono (by decide)) b_Book_eq pass0) (op_neAny hr.units))))) (pe_cmethK (pe_glob (v := .ref A.Row) rfl T.g_Row rfl) ⟨T.rd_Row, T.ga_Row⟩ T.c_Row_read F_Row_read (hr.mono (by decide)) k_Row_read_text (fun _ _ _ _ _ _ _ h => h.elim) (pk_cons (pe_callTy (CallR.or (call_str_own (E := E0) (C := A.Part) ⟨T.m_Part_str, T.i_f_Row_str⟩ F_Row_str (hr.mono (by decide)) b_Row_str pass0) (CallR.or (call_str_own (E := E0) (C := A.Book) ⟨T.m_Book_str, T.i_f_Book_str⟩ F_Book_str (hr.mono (by decide)) b_Book_str pass0) call_str_is)) (by rfl) T.z_str (by decide +kernel) (pa_cons (pv 6) pa_nil)) pk_nil)) (pv 6) (nomark _))))) (pss_one (ps_ret pe_bl)) pss_nil)
      (pss_cons (ps_set (i := 7) sc_law.nd rfl (by first | exact .inl rfl | exact .inr rfl) (pe_mkcK k_Book_init_rows_keeps_counted_marks hr (by decide) pass0 (pk_cons (pe_lst (pa_cons (pv 4) (pa_cons (pv 5) (pa_cons (pv 6) pa_nil)))) (pk_cons (pe_lst (pa_cons pe_str pa_nil)) (pk_cons (pe_lst (pa_cons pe_str pa_nil)) (pk_cons (pe_lst (pa_cons pe_str (pa_cons pe_str pa_nil))) pk_nil))))))
      (pss_cons (ps_if (PW.pt (pw_or (pt_cmpR (show OpR _ _ (Vi.rSum (rOwn K A.Step (spM (vcx A K w D) 2 m_Row_eq) E0 (fun b => !b)) (Vi.rSum (rOwn K A.Join (spM (vcx A K w D) 2 m_Row_eq) E0 (fun b => !b)) (Vi.rSum (rOwn K A.Part (spM (vcx A K w D) 2 m_Row_eq) E0 (fun b => !b)) (Vi.rSum (rOwn K A.Book (spM (vcx A K w D) 2 m_Book_eq) E0 (fun b => !b)) (rNeAny K))))) from opr_or (op_own_ne (C := A.Step) (sp := (spM (vcx A K w D) 2 m_Row_eq)) (E := E0) ⟨T.m_Step_eq, T.o_Step.ne, T.i_f_Row_eq, T.o_Step.mo⟩ F_Row_eq (hr.mono (by decide)) b_Row_eq pass0) (opr_or (op_own_ne (C := A.Join) (sp := (spM (vcx A K w D) 2 m_Row_eq)) (E := E0) ⟨T.m_Join_eq, T.o_Join.ne, T.i_f_Row_eq, T.o_Join.mo⟩ F_Row_eq (hr.mono (by decide)) b_Row_eq pass0) (opr_or (op_own_ne (C := A.Part) (sp := (spM (vcx A K w D) 2 m_Row_eq)) (E := E0) ⟨T.m_Part_eq, T.o_Part.ne, T.i_f_Row_eq, T.o_Part.mo⟩ F_Row_eq (hr.mono (by decide)) b_Row_eq pass0) (opr_or (op_own_ne (C := A.Book) (sp := (spM (vcx A K w D) 2 m_Book_eq)) (E := E0) ⟨T.m_Book_eq, T.o_Book.ne, T.i_f_Book_eq, T.o_Book.mo⟩ F_Book_eq (hr.mono (by decide)) b_Book_eq pass0) (op_neAny hr.units))))) (pv 7) (pe_mkc c_Book_init hr (by decide) pass0 (pa_cons (pe_lst (pa_cons pe_str (pa_cons pe_str pa_nil))) (pa_cons (pe_lst (pa_cons pe_str pa_nil)) (pa_cons (pe_lst (pa_cons pe_str pa_nil)) (pa_cons (pe_lst (pa_cons (pv 4) (pa_cons (pv 5) (pa_cons (pv 6) pa_nil)))) pa_nil))))) (nomark _)) (pw_or1 (pt_cmpR (show OpR _ _ (Vi.rSum (rOwn K A.Step (spM (vcx A K w D) 2 m_Row_eq) E0 (fun b => !b)) (Vi.rSum (rOwn K A.Join (spM (vcx A K w D) 2 m_Row_eq) E0 (fun b => !b)) (Vi.rSum (rOwn K A.Part (spM (vcx A K w D) 2 m_Row_eq) E0 (fun b => !b)) (Vi.rSum (rOwn K A.Book (spM (vcx A K w D) 2 m_Book_eq) E0 (fun b => !b)) (rNeAny K))))) from opr_or (op_own_ne (C := A.Step) (sp := (spM (vcx A K w D) 2 m_Row_eq)) (E := E0) ⟨T.m_Step_eq, T.o_Step.ne, T.i_f_Row_eq, T.o_Step.mo⟩ F_Row_eq (hr.mono (by decide)) b_Row_eq pass0) (opr_or (op_own_ne (C := A.Join) (sp := (spM (vcx A K w D) 2 m_Row_eq)) (E := E0) ⟨T.m_Join_eq, T.o_Join.ne, T.i_f_Row_eq, T.o_Join.mo⟩ F_Row_eq (hr.mono (by decide)) b_Row_eq pass0) (opr_or (op_own_ne (C := A.Part) (sp := (spM (vcx A K w D) 2 m_Row_eq)) (E := E0) ⟨T.m_Part_eq, T.o_Part.ne, T.i_f_Row_eq, T.o_Part.mo⟩ F_Row_eq (hr.mono (by decide)) b_Row_eq pass0) (opr_or (op_own_ne (C := A.Book) (sp := (spM (vcx A K w D) 2 m_Book_eq)) (E := E0) ⟨T.m_Book_eq, T.o_Book.ne, T.i_f_Book_eq, T.o_Book.mo⟩ F_Book_eq (hr.mono (by decide)) b_Book_eq pass0) (op_neAny hr.units))))) (pe_cmethK (pe_glob (v := .ref A.Book) rfl T.g_Book rfl) ⟨T.rd_Book, T.ga_Book⟩ T.c_Book_read F_Book_read (hr.mono (by decide)) k_Book_read_text (fun _ _ _ _ _ _ _ h => h.elim) (pk_cons (pe_callTy (CallR.or (call_str_own (E := E0) (C := A.Part) ⟨T.m_Part_str, T.i_f_Row_str⟩ F_Row_str (hr.mono (by decide)) b_Row_str pass0) (CallR.or (call_str_own (E := E0) (C := A.Book) ⟨T.m_Book_str, T.i_f_Book_str⟩ F_Book_str (hr.mono (by decide)) b_Book_str pass0) call_str_is)) (by rfl) T.z_str (by decide +kernel) (pa_cons (pv 7) pa_nil)) pk_nil)) (pv 7) (nomark _))))) (pss_one (ps_ret pe_bl)) pss_nil)
      (pss_cons (ps_if (pt_cmpR (show OpR _ _ (Vi.rSum (rOwn K A.Step (spM (vcx A K w D) 2 m_Row_eq) E0 (fun b => !b)) (Vi.rSum (rOwn K A.Join (spM (vcx A K w D) 2 m_Row_eq) E0 (fun b => !b)) (Vi.rSum (rOwn K A.Part (spM (vcx A K w D) 2 m_Row_eq) E0 (fun b => !b)) (Vi.rSum (rOwn K A.Book (spM (vcx A K w D) 2 m_Book_eq) E0 (fun b => !b)) (rNeAny K))))) from opr_or (op_own_ne (C := A.Step) (sp := (spM (vcx A K w D) 2 m_Row_eq)) (E := E0) ⟨T.m_Step_eq, T.o_Step.ne, T.i_f_Row_eq, T.o_Step.mo⟩ F_Row_eq (hr.mono (by decide)) b_Row_eq pass0) (opr_or (op_own_ne (C := A.Join) (sp := (spM (vcx A K w D) 2 m_Row_eq)) (E := E0) ⟨T.m_Join_eq, T.o_Join.ne, T.i_f_Row_eq, T.o_Join.mo⟩ F_Row_eq (hr.mono (by decide)) b_Row_eq pass0) (opr_or (op_own_ne (C := A.Part) (sp := (spM (vcx A K w D) 2 m_Row_eq)) (E := E0) ⟨T.m_Part_eq, T.o_Part.ne, T.i_f_Row_eq, T.o_Part.mo⟩ F_Row_eq (hr.mono (by decide)) b_Row_eq pass0) (opr_or (op_own_ne (C := A.Book) (sp := (spM (vcx A K w D) 2 m_Book_eq)) (E := E0) ⟨T.m_Book_eq, T.o_Book.ne, T.i_f_Book_eq, T.o_Book.mo⟩ F_Book_eq (hr.mono (by decide)) b_Book_eq pass0) (op_neAny hr.units))))) (pe_methK (pv 7) T.o_Book.cls ⟨T.m_Book_step, T.i_f_Book_step, T.kp_Book_step⟩ F_Book_step (hr.mono (by decide)) k_Book_step_mark_kind pass0 (pk_cons pe_str (pk_cons pe_str pk_nil))) (pe_tup (pa_cons pe_str (pa_cons (pv 2) pa_nil))) (nomark _)) (pss_one (ps_ret pe_bl)) pss_nil)
      (pss_cons (ps_if (pt_cmpR (show OpR _ _ (Vi.rSum (rOwn K A.Step (spM (vcx A K w D) 2 m_Row_eq) E0 (fun b => !b)) (Vi.rSum (rOwn K A.Join (spM (vcx A K w D) 2 m_Row_eq) E0 (fun b => !b)) (Vi.rSum (rOwn K A.Part (spM (vcx A K w D) 2 m_Row_eq) E0 (fun b => !b)) (Vi.rSum (rOwn K A.Book (spM (vcx A K w D) 2 m_Book_eq) E0 (fun b => !b)) (rNeAny K))))) from opr_or (op_own_ne (C := A.Step) (sp := (spM (vcx A K w D) 2 m_Row_eq)) (E := E0) ⟨T.m_Step_eq, T.o_Step.ne, T.i_f_Row_eq, T.o_Step.mo⟩ F_Row_eq (hr.mono (by decide)) b_Row_eq pass0) (opr_or (op_own_ne (C := A.Join) (sp := (spM (vcx A K w D) 2 m_Row_eq)) (E := E0) ⟨T.m_Join_eq, T.o_Join.ne, T.i_f_Row_eq, T.o_Join.mo⟩ F_Row_eq (hr.mono (by decide)) b_Row_eq pass0) (opr_or (op_own_ne (C := A.Part) (sp := (spM (vcx A K w D) 2 m_Row_eq)) (E := E0) ⟨T.m_Part_eq, T.o_Part.ne, T.i_f_Row_eq, T.o_Part.mo⟩ F_Row_eq (hr.mono (by decide)) b_Row_eq pass0) (opr_or (op_own_ne (C := A.Book) (sp := (spM (vcx A K w D) 2 m_Book_eq)) (E := E0) ⟨T.m_Book_eq, T.o_Book.ne, T.i_f_Book_eq, T.o_Book.mo⟩ F_Book_eq (hr.mono (by decide)) b_Book_eq pass0) (op_neAny hr.units))))) (pe_methK (pv 7) T.o_Book.cls ⟨T.m_Book_joined, T.i_f_Book_joined, T.kp_Book_joined⟩ F_Book_joined (hr.mono (by decide)) k_Book_joined_there_here pass0 (pk_cons pe_str (pk_cons pe_str pk_nil))) (pe_tup (pa_cons pe_str (pa_cons (pv 3) pa_nil))) (nomark _)) (pss_one (ps_ret pe_bl)) pss_nil)
      (pss_cons (ps_if (PW.pt (pw_or (pt_cmpR (show OpR _ _ (Vi.rSum (rOwn K A.Step (spM (vcx A K w D) 2 m_Row_eq) E0 (fun b => !b)) (Vi.rSum (rOwn K A.Join (spM (vcx A K w D) 2 m_Row_eq) E0 (fun b => !b)) (Vi.rSum (rOwn K A.Part (spM (vcx A K w D) 2 m_Row_eq) E0 (fun b => !b)) (Vi.rSum (rOwn K A.Book (spM (vcx A K w D) 2 m_Book_eq) E0 (fun b => !b)) (rNeAny K))))) from opr_or (op_own_ne (C := A.Step) (sp := (spM (vcx A K w D) 2 m_Row_eq)) (E := E0) ⟨T.m_Step_eq, T.o_Step.ne, T.i_f_Row_eq, T.o_Step.mo⟩ F_Row_eq (hr.mono (by decide)) b_Row_eq pass0) (opr_or (op_own_ne (C := A.Join) (sp := (spM (vcx A K w D) 2 m_Row_eq)) (E := E0) ⟨T.m_Join_eq, T.o_Join.ne, T.i_f_Row_eq, T.o_Join.mo⟩ F_Row_eq (hr.mono (by decide)) b_Row_eq pass0) (opr_or (op_own_ne (C := A.Part) (sp := (spM (vcx A K w D) 2 m_Row_eq)) (E := E0) ⟨T.m_Part_eq, T.o_Part.ne, T.i_f_Row_eq, T.o_Part.mo⟩ F_Row_eq (hr.mono (by decide)) b_Row_eq pass0) (opr_or (op_own_ne (C := A.Book) (sp := (spM (vcx A K w D) 2 m_Book_eq)) (E := E0) ⟨T.m_Book_eq, T.o_Book.ne, T.i_f_Book_eq, T.o_Book.mo⟩ F_Book_eq (hr.mono (by decide)) b_Book_eq pass0) (op_neAny hr.units))))) (pe_methK (pv 7) T.o_Book.cls ⟨T.m_Book_parted, T.i_f_Book_parted, T.kp_Book_parted⟩ F_Book_parted (hr.mono (by decide)) k_Book_parted_mark pass0 (pk_cons pe_str pk_nil)) (pe_tup (pa_cons pe_str (pa_cons pe_str (pa_cons (pv 3) (pa_cons (pv 2) pa_nil))))) (nomark _)) (pw_or1 (pt_cmpR (show OpR _ _ (Vi.rSum (rOwn K A.Step (spM (vcx A K w D) 2 m_Row_eq) E0 (fun b => !b)) (Vi.rSum (rOwn K A.Join (spM (vcx A K w D) 2 m_Row_eq) E0 (fun b => !b)) (Vi.rSum (rOwn K A.Part (spM (vcx A K w D) 2 m_Row_eq) E0 (fun b => !b)) (Vi.rSum (rOwn K A.Book (spM (vcx A K w D) 2 m_Book_eq) E0 (fun b => !b)) (rNeAny K))))) from opr_or (op_own_ne (C := A.Step) (sp := (spM (vcx A K w D) 2 m_Row_eq)) (E := E0) ⟨T.m_Step_eq, T.o_Step.ne, T.i_f_Row_eq, T.o_Step.mo⟩ F_Row_eq (hr.mono (by decide)) b_Row_eq pass0) (opr_or (op_own_ne (C := A.Join) (sp := (spM (vcx A K w D) 2 m_Row_eq)) (E := E0) ⟨T.m_Join_eq, T.o_Join.ne, T.i_f_Row_eq, T.o_Join.mo⟩ F_Row_eq (hr.mono (by decide)) b_Row_eq pass0) (opr_or (op_own_ne (C := A.Part) (sp := (spM (vcx A K w D) 2 m_Row_eq)) (E := E0) ⟨T.m_Part_eq, T.o_Part.ne, T.i_f_Row_eq, T.o_Part.mo⟩ F_Row_eq (hr.mono (by decide)) b_Row_eq pass0) (opr_or (op_own_ne (C := A.Book) (sp := (spM (vcx A K w D) 2 m_Book_eq)) (E := E0) ⟨T.m_Book_eq, T.o_Book.ne, T.i_f_Book_eq, T.o_Book.mo⟩ F_Book_eq (hr.mono (by decide)) b_Book_eq pass0) (op_neAny hr.units))))) (pe_methK (pv 7) T.o_Book.cls ⟨T.m_Book_without, T.i_f_Book_without, T.kp_Book_without⟩ F_Book_without (hr.mono (by decide)) k_Book_without_at pass0 (pk_cons pe_int pk_nil)) (pe_meth (pv 7) T.o_Book.cls ⟨T.m_Book_without, T.i_f_Book_without, T.kp_Book_without⟩ F_Book_without (hr.mono (by decide)) b_Book_without .nil pass0 (pa_cons pe_int pa_nil)) (nomark _))))) (pss_one (ps_ret pe_bl)) pss_nil)
      (pss_one (ps_if (pt_cmpR (show OpR _ _ (Vi.rSum (rOwn K A.Step (spM (vcx A K w D) 2 m_Row_eq) E0 (fun b => !b)) (Vi.rSum (rOwn K A.Join (spM (vcx A K w D) 2 m_Row_eq) E0 (fun b => !b)) (Vi.rSum (rOwn K A.Part (spM (vcx A K w D) 2 m_Row_eq) E0 (fun b => !b)) (Vi.rSum (rOwn K A.Book (spM (vcx A K w D) 2 m_Book_eq) E0 (fun b => !b)) (rNeAny K))))) from opr_or (op_own_ne (C := A.Step) (sp := (spM (vcx A K w D) 2 m_Row_eq)) (E := E0) ⟨T.m_Step_eq, T.o_Step.ne, T.i_f_Row_eq, T.o_Step.mo⟩ F_Row_eq (hr.mono (by decide)) b_Row_eq pass0) (opr_or (op_own_ne (C := A.Join) (sp := (spM (vcx A K w D) 2 m_Row_eq)) (E := E0) ⟨T.m_Join_eq, T.o_Join.ne, T.i_f_Row_eq, T.o_Join.mo⟩ F_Row_eq (hr.mono (by decide)) b_Row_eq pass0) (opr_or (op_own_ne (C := A.Part) (sp := (spM (vcx A K w D) 2 m_Row_eq)) (E := E0) ⟨T.m_Part_eq, T.o_Part.ne, T.i_f_Row_eq, T.o_Part.mo⟩ F_Row_eq (hr.mono (by decide)) b_Row_eq pass0) (opr_or (op_own_ne (C := A.Book) (sp := (spM (vcx A K w D) 2 m_Book_eq)) (E := E0) ⟨T.m_Book_eq, T.o_Book.ne, T.i_f_Book_eq, T.o_Book.mo⟩ F_Book_eq (hr.mono (by decide)) b_Book_eq pass0) (op_neAny hr.units))))) (pe_methK (pv 7) T.o_Book.cls ⟨T.m_Book_asking, T.i_f_Book_asking, T.kp_Book_asking⟩ F_Book_asking (hr.mono (by decide)) k_Book_asking_kinds pass0 (pk_cons (pe_lst (pa_cons pe_str pa_nil)) pk_nil)) (pe_meth (pv 7) T.o_Book.cls ⟨T.m_Book_asking, T.i_f_Book_asking, T.kp_Book_asking⟩ F_Book_asking (hr.mono (by decide)) b_Book_asking .nil pass0 (pa_cons (pe_lst (pa_cons pe_str pa_nil)) pa_nil)) (nomark _)) (pss_one (ps_ret pe_bl)) pss_nil))))))))))))))
      (pss_one (ps_ret pe_bl))),
      ss_run (E := E0) (N := ["_law_script", "_law_zturn", "_law_zone", "_law_ztwo", "_law_zstep", "_law_zjoin", "_law_zpart", "_law_zbook"]) (mb := (vSeq (vFor (vRng1 (vCons (vC (.int 4)) vNil)) (gN 1) (vClear [2, 3, 4, 5, 6, 7] (vSeq (vPs (vpSh [] 2 (vDrawR (-3) 7 (vCons (vVar 0) (vCons (vVar 1) vNil))) (vpSh [2] 3 (vDrawR (-3) 7 (vCons (vVar 0) (vCons (v2 addT (vVar 1) (vC (.int 9))) vNil))) vpNil)))
      (vClear [1] mb_law_0))))
      (vRet (vC (.bl true))))) (ss_seq (ss_for (si_rng1 (sa_cons' se_int sa_nil')) (sg_name 1) (ss_clear [2, 3, 4, 5, 6, 7] (ss_seq (ss_parG (sp_sh (se_drawR (C := vcx A K w D) (by decide) (fun k h => ⟨⟨k, h, rfl⟩, rfl, rfl⟩) (sa_cons' (se_var 0) (sa_cons' (se_var 1) sa_nil'))) (sp_sh (se_drawR (C := vcx A K w D) (by decide) (fun k h => ⟨⟨k, h, rfl⟩, rfl, rfl⟩) (sa_cons' (se_var 0) (sa_cons' (se_op ro_add (se_var 1) se_int) sa_nil'))) sp_nil)))
      (ss_clear [1] (ss_seq (ss_setS 4 (se_make rfl (by decide) (sa_perm [3, 2, 1, 0] 4 (sa_cons' (se_var 2) (sa_cons' (se_str lt34) (sa_cons' (se_str lt8) (sa_cons' (se_str lt33) sa_nil')))))))
      (ss_seq (ss_setS 5 (se_make rfl (by decide) (sa_perm [3, 2, 0, 1] 4 (sa_cons' (se_str lt13) (sa_cons' (se_var 3) (sa_cons' (se_str lt34) (sa_cons' (se_str lt35) sa_nil')))))))
      (ss_seq (ss_setS 6 (se_make rfl (by decide) (sa_perm [4, 3, 2, 1, 0] 5 (sa_cons' (se_var 2) (sa_cons' (se_var 3) (sa_cons' (se_str lt6) (sa_cons' (se_str lt35) (sa_cons' (se_str lt34) sa_nil'))))))))
      (ss_seq (ss_if (st_or (st_test (se_opp (rop_eqOwn (fun b => by cases b <;> rfl) rfl (nf_Step T) (rop_eqOwn (fun b => by cases b <;> rfl) rfl (nf_Join T) (rop_eqOwn (fun b => by cases b <;> rfl) rfl (nf_Part T) (rop_eqOwn (fun b => by cases b <;> rfl) rfl (nf_Book T) (rop_of ro_ne))))) (se_var 4) (se_make rfl (by decide) (sa_cons' (se_str lt33) (sa_cons' (se_str lt8) (sa_cons' (se_str lt34) (sa_cons' (se_var 2) sa_nil'))))))) (st_test (se_opp (rop_eqOwn (fun b => by cases b <;> rfl) rfl (nf_Step T) (rop_eqOwn (fun b => by cases b <;> rfl) rfl (nf_Join T) (rop_eqOwn (fun b => by cases b <;> rfl) rfl (nf_Part T) (rop_eqOwn (fun b => by cases b <;> rfl) rfl (nf_Book T) (rop_of ro_ne))))) (se_var 5) (se_make rfl (by decide) (sa_cons' (se_str lt35) (sa_cons' (se_str lt34) (sa_cons' (se_str lt13) (sa_cons' (se_var 3) sa_nil')))))))) (ss_ret se_bl) ss_next)
      (ss_seq (ss_if (st_or (st_test (se_opp (rop_eqOwn (fun b => by cases b <;> rfl) rfl (nf_Step T) (rop_eqOwn (fun b => by cases b <;> rfl) rfl (nf_Join T) (rop_eqOwn (fun b => by cases b <;> rfl) rfl (nf_Part T) (rop_eqOwn (fun b => by cases b <;> rfl) rfl (nf_Book T) (rop_of ro_ne))))) (se_var 6) (se_make rfl (by decide) (sa_cons' (se_str lt34) (sa_cons' (se_str lt35) (sa_cons' (se_str lt6) (sa_cons' (se_var 3) (sa_cons' (se_var 2) sa_nil')))))))) (st_test (se_opp (rop_eqOwn (fun b => by cases b <;> rfl) rfl (nf_Step T) (rop_eqOwn (fun b => by cases b <;> rfl) rfl (nf_Join T) (rop_eqOwn (fun b => by cases b <;> rfl) rfl (nf_Part T) (rop_eqOwn (fun b => by cases b <;> rfl) rfl (nf_Book T) (rop_of ro_ne))))) (se_cmethS (E' := fun _ => E0) rfl (sa_perm [0] 1 (sa_cons' (se_cbp (rcp_strOwn rfl (rcp_strOwn rfl (rcp_of rc_str))) (sa_cons' (se_var 6) sa_nil')) sa_nil'))) (se_var 6)))) (ss_ret se_bl) ss_next)
      (ss_seq (ss_setS 7 (se_make rfl (by decide) (sa_perm [3, 2, 1, 0] 4 (sa_cons' (se_lst (sa_cons' (se_var 4) (sa_cons' (se_var 5) (sa_cons' (se_var 6) sa_nil')))) (sa_cons' (se_lst (sa_cons' (se_str lt36) sa_nil')) (sa_cons' (se_lst (sa_cons' (se_str lt34) sa_nil')) (sa_cons' (se_lst (sa_cons' (se_str lt35) (sa_cons' (se_str lt34) sa_nil'))) sa_nil')))))))
      (ss_seq (ss_if (st_or (st_test (se_opp (rop_eqOwn (fun b => by cases b <;> rfl) rfl (nf_Step T) (rop_eqOwn (fun b => by cases b <;> rfl) rfl (nf_Join T) (rop_eqOwn (fun b => by cases b <;> rfl) rfl (nf_Part T) (rop_eqOwn (fun b => by cases b <;> rfl) rfl (nf_Book T) (rop_of ro_ne))))) (se_var 7) (se_make rfl (by decide) (sa_cons' (se_lst (sa_cons' (se_str lt35) (sa_cons' (se_str lt34) sa_nil'))) (sa_cons' (se_lst (sa_cons' (se_str lt34) sa_nil')) (sa_cons' (se_lst (sa_cons' (se_str lt36) sa_nil')) (sa_cons' (se_lst (sa_cons' (se_var 4) (sa_cons' (se_var 5) (sa_cons' (se_var 6) sa_nil')))) sa_nil'))))))) (st_test (se_opp (rop_eqOwn (fun b => by cases b <;> rfl) rfl (nf_Step T) (rop_eqOwn (fun b => by cases b <;> rfl) rfl (nf_Join T) (rop_eqOwn (fun b => by cases b <;> rfl) rfl (nf_Part T) (rop_eqOwn (fun b => by cases b <;> rfl) rfl (nf_Book T) (rop_of ro_ne))))) (se_cmethS (E' := fun _ => E0) rfl (sa_perm [0] 1 (sa_cons' (se_cbp (rcp_strOwn rfl (rcp_strOwn rfl (rcp_of rc_str))) (sa_cons' (se_var 7) sa_nil')) sa_nil'))) (se_var 7)))) (ss_ret se_bl) ss_next)
      (ss_seq (ss_if (st_test (se_opp (rop_eqOwn (fun b => by cases b <;> rfl) rfl (nf_Step T) (rop_eqOwn (fun b => by cases b <;> rfl) rfl (nf_Join T) (rop_eqOwn (fun b => by cases b <;> rfl) rfl (nf_Part T) (rop_eqOwn (fun b => by cases b <;> rfl) rfl (nf_Book T) (rop_of ro_ne))))) (se_meth lt37 rfl (se_var 7) (sa_perm [1, 0] 2 (sa_cons' (se_str lt35) (sa_cons' (se_str lt33) sa_nil')))) (se_tup (sa_cons' (se_str lt34) (sa_cons' (se_var 2) sa_nil'))))) (ss_ret se_bl) ss_next)
      (ss_seq (ss_if (st_test (se_opp (rop_eqOwn (fun b => by cases b <;> rfl) rfl (nf_Step T) (rop_eqOwn (fun b => by cases b <;> rfl) rfl (nf_Join T) (rop_eqOwn (fun b => by cases b <;> rfl) rfl (nf_Part T) (rop_eqOwn (fun b => by cases b <;> rfl) rfl (nf_Book T) (rop_of ro_ne))))) (se_meth lt38 rfl (se_var 7) (sa_perm [1, 0] 2 (sa_cons' (se_str lt34) (sa_cons' (se_str lt35) sa_nil')))) (se_tup (sa_cons' (se_str lt34) (sa_cons' (se_var 3) sa_nil'))))) (ss_ret se_bl) ss_next)
      (ss_seq (ss_if (st_or (st_test (se_opp (rop_eqOwn (fun b => by cases b <;> rfl) rfl (nf_Step T) (rop_eqOwn (fun b => by cases b <;> rfl) rfl (nf_Join T) (rop_eqOwn (fun b => by cases b <;> rfl) rfl (nf_Part T) (rop_eqOwn (fun b => by cases b <;> rfl) rfl (nf_Book T) (rop_of ro_ne))))) (se_meth lt39 rfl (se_var 7) (sa_perm [0] 1 (sa_cons' (se_str lt34) sa_nil'))) (se_tup (sa_cons' (se_str lt35) (sa_cons' (se_str lt34) (sa_cons' (se_var 3) (sa_cons' (se_var 2) sa_nil'))))))) (st_test (se_opp (rop_eqOwn (fun b => by cases b <;> rfl) rfl (nf_Step T) (rop_eqOwn (fun b => by cases b <;> rfl) rfl (nf_Join T) (rop_eqOwn (fun b => by cases b <;> rfl) rfl (nf_Part T) (rop_eqOwn (fun b => by cases b <;> rfl) rfl (nf_Book T) (rop_of ro_ne))))) (se_meth lt40 rfl (se_var 7) (sa_perm [0] 1 (sa_cons' se_int sa_nil'))) (se_meth lt40 rfl (se_var 7) (sa_cons' se_int sa_nil'))))) (ss_ret se_bl) ss_next)
      (ss_if (st_test (se_opp (rop_eqOwn (fun b => by cases b <;> rfl) rfl (nf_Step T) (rop_eqOwn (fun b => by cases b <;> rfl) rfl (nf_Join T) (rop_eqOwn (fun b => by cases b <;> rfl) rfl (nf_Part T) (rop_eqOwn (fun b => by cases b <;> rfl) rfl (nf_Book T) (rop_of ro_ne))))) (se_meth lt41 rfl (se_var 7) (sa_perm [0] 1 (sa_cons' (se_lst (sa_cons' (se_str lt17) sa_nil')) sa_nil'))) (se_meth lt41 rfl (se_var 7) (sa_cons' (se_lst (sa_cons' (se_str lt17) sa_nil')) sa_nil')))) (ss_ret se_bl) ss_next)))))))))))))))
      (ss_ret se_bl)) h (by decide)⟩
end
end Vi

namespace Vi
open PySem PySem.Spec PyProof.Rows L2 Fk
section
variable {P : Program} {w : World} {A : Ads} {K : PySem.W.Frag} {mg : Str → Option Value} {base : Heap}
theorem cut_ints (is : List Int) (lo hi : Option Int) : ∃ js : List Int, cutV (is.map V.int) lo hi = js.map V.int ∧ js.length ≤ is.length := by
  refine ⟨(is.drop (HT.sIx is.length 0 lo)).take (HT.sIx is.length is.length hi - HT.sIx is.length 0 lo), ?_, ?_⟩
  · unfold cutV
    rw [List.length_map, List.map_take, List.map_drop]
  · rw [List.length_take, List.length_drop]
    omega
/-- a number from -3 to 3 -/
def spNumber (K : PySem.W.Frag) : Sp := fun vs H Q _ => ∃ (l : Addr) (is : List Int) (t : Nat), vs = [.ref l, .int t] ∧ SqL K H l (is.map V.int) ∧ is.length ≤ 1000 ∧ t ≤ 20 ∧ ∀ (i : Int) H', -3 ≤ i → i ≤ 3 → Same H H' → Q (.int i) H'
theorem ok_number (T : Tx A K mg) {f : Addr} {fd : FuncData} (F : Fun K "_law_number" "_law_number" s_law_number f fd) : FnOk P w K mg base CX0 1 f fd ["_law_script", "_law_zturn"] (spNumber K) := by
  refine F.ok sc_law_number (fun vs H Q E h => ?_) (fun cdv A' outer s H vs Q E hr h => ?_)
  · obtain ⟨l, is, t, rfl, _⟩ := h; rfl
  · obtain ⟨l, is, t, rfl, hl, hz, ht, q⟩ := h
    refine ⟨_, (pss_cons (ps_set (i := 2) sc_law_number.nd rfl (by first | exact .inl rfl | exact .inr rfl) (pe_op op_add pe_int (pe_op op_mul pe_int (pv 1))))
      (pss_cons (ps_for PassesOwn.never rfl (pi_list (pe_slice sl_list (pv 0) po_none (po_some pe_int))) (pg_name (i := 3) sc_law_number.nd rfl (by first | exact .inl rfl | exact .inr rfl)) (pss_one (ps_set (i := 2) sc_law_number.nd rfl (by first | exact .inl rfl | exact .inr rfl) (pe_op op_mod (pe_callTy call_int1 (by rfl) T.z_int (by decide +kernel) (pa_cons (pe_op op_add (pe_op op_add (pe_op op_mul (pv 2) pe_int) (pe_op op_mod (pe_callTy call_int1 (by rfl) T.z_int (by decide +kernel) (pa_cons (pe_callB call_abs (by rfl) T.z_abs (by decide +kernel) (pa_cons (pv 3) pa_nil)) pa_nil)) pe_int)) (pv 1)) pa_nil)) pe_int))))
      (pss_one (ps_ret (pe_op op_sub (pe_op op_mod (pe_callTy call_int1 (by rfl) T.z_int (by decide +kernel) (pa_cons (pe_op op_fdiv (pv 2) pe_int) pa_nil)) pe_int) pe_int))))), ?_⟩
    refine s_set (R := Free) (H := H) (P := Is (.int (17 + 5 * (t : Int)))) ?_ (Gr.refl free_j) fun u H1 g1 gv1 e => ?_
    · exact ev_I0 (g := fun i j => .int (i + j)) (i := 17) (j := 5 * (t : Int)) ev_c (ev_I (C := CMul) (g := fun i j => .int (i * j)) (i := 5) (j := (t : Int)) (.inl (by decide)) ev_c (ev_is rfl))
    cases e
    dsimp only
    obtain ⟨js, hjs, hlen⟩ := cut_ints is none (some 50)
    refine s_for (R := Free) (H := H1) (n := js.length) (Y := YAt (js.map V.int)) ?_ (Gr.refl free_j) fun H3 g3 gv3 => ⟨fun i σ' H' => Gr Free H3 H' ∧ ∃ (mm : Int) (y : Option V), 0 ≤ mm ∧ mm < 1000003 ∧ σ' = [some (.ref l), some (.int (t : Int)), some (.int mm), y], ⟨Gr.refl free_j, 17 + 5 * (t : Int), none, by omega, by omega, rfl⟩, fun i σ' H' _ h => h.1, ?_, ?_⟩
    · have hw := ew_list (K := K) (ev_L (ev_slL (K := K) (R := Free) (σ := [some (.ref l), some (.int (t : Int)), some (.int (17 + 5 * (t : Int))), none]) (H := H1) (lo := none) (hi := some 50) (ta := tVar 0) (to1 := tNoPart) (to2 := tPart (tC (.int 50))) (ev_var rfl fun H' g => ⟨l, rfl, fun H2 g2 => (SqL.ext hl ((gv1.1.tr g).tr g2).free)⟩) eo_none (eo_some ev_c)))
      rw [hjs, List.length_map] at hw
      exact hw
    · rintro i x σ' H' H4 hi ⟨g4, mm, y, m0, m1, rfl⟩ ⟨rfl, hx⟩
      obtain ⟨c, rfl⟩ : ∃ c : Int, x = .int c := by
        obtain ⟨c, hc, e⟩ := List.mem_map.mp (List.mem_of_getElem? hx)
        exact ⟨c, e.symm⟩
      refine s_set (R := Free) (H := H4) (σ := [some (.ref l), some (.int (t : Int)), some (.int mm), some (.int c)]) (P := Is (.int ((mm * 37 + (if c < 0 then -c else c) % 1000003 + (t : Int)) % 1000003))) ?_ (Gr.refl free_j) fun u H5 g5 gv5 e => ?_
      · refine ev_I (C := fun _ j => 0 < j) (g := fun i j => .int (i % j)) (j := 1000003) (by decide) (ev_int1 (ev_I0 (g := fun i j => .int (i + j)) (ev_I0 (g := fun i j => .int (i + j)) (ev_I (C := CMul) (g := fun i j => .int (i * j)) (i := mm) (j := 37) (.inr (by decide)) (ev_is rfl) ev_c) (ev_I (C := fun _ j => 0 < j) (g := fun i j => .int (i % j)) (i := if c < 0 then -c else c) (j := 1000003) (by decide) (ev_int1 (ev_abs (ev_is rfl))) ev_c)) (ev_is rfl))) ev_c
      · cases e
        exact ⟨g4.tr g5, _, some (.int c), Int.emod_nonneg _ (by decide), Int.emod_lt_of_pos _ (by decide), rfl⟩
    · rintro σ' H4 ⟨g4, mm, y, m0, m1, rfl⟩
      refine s_ret (R := Free) (H := H4) (P := Is (.int (mm / 9 % 7 - 3))) (ev_I0 (g := fun i j => .int (i - j)) (ev_I (C := fun _ j => 0 < j) (g := fun i j => .int (i % j)) (i := mm / 9) (j := 7) (by decide) (ev_int1 (ev_I (C := CDiv) (g := fun i j => .int (i / j)) (i := mm) (j := 9) ⟨by decide, by decide⟩ (ev_is rfl) ev_c)) ev_c) ev_c) (Gr.refl free_j) fun u H8 g8 _ e => ?_
      cases e
      have h1 := Int.emod_nonneg (mm / 9) (b := 7) (by decide)
      have h2 := Int.emod_lt_of_pos (mm / 9) (b := 7) (by decide)
      exact q _ H8 (by omega) (by omega) (((gv1.1.tr g3).tr g4).tr g8).free
end
end Vi


namespace Vi
open PySem PySem.Spec PyProof.Rows L2 Fk
/-! ### the law, turn by turn -/
def plainS : Slot → Bool
  | .no => true
  | .sh _ => true
  | _ => false
def okR : Prog Out → Bool
  | .ret (.nx [.sh .dl, a, b, c, d, e, f, g]) => plainS a && plainS b && plainS c && plainS d && plainS e && plainS f && plainS g
  | _ => false
def env11 (i j : Nat) : EnvS := [.sh .dl, .no, .sh (.int (-3 + (i : Int))), .sh (.int (-3 + (j : Int))), .no, .no, .no, .no]
theorem row11_0 : ((List.range 7).all fun j => okR (mb_law_0 (env11 0 j))) = true := by decide +kernel
theorem row11_1 : ((List.range 7).all fun j => okR (mb_law_0 (env11 1 j))) = true := by decide +kernel
theorem row11_2 : ((List.range 7).all fun j => okR (mb_law_0 (env11 2 j))) = true := by decide +kernel
theorem row11_3 : ((List.range 7).all fun j => okR (mb_law_0 (env11 3 j))) = true := by decide +kernel
theorem row11_4 : ((List.range 7).all fun j => okR (mb_law_0 (env11 4 j))) = true := by decide +kernel
theorem row11_5 : ((List.range 7).all fun j => okR (mb_law_0 (env11 5 j))) = true := by decide +kernel
theorem row11_6 : ((List.range 7).all fun j => okR (mb_law_0 (env11 6 j))) = true := by decide +kernel
theorem all49 : ∀ i j : Nat, i < 7 → j < 7 → okR (mb_law_0 (env11 i j)) = true
  | 0, j, _, hj => List.all_eq_true.mp row11_0 j (List.mem_range.mpr hj)
  | 1, j, _, hj => List.all_eq_true.mp row11_1 j (List.mem_range.mpr hj)
  | 2, j, _, hj => List.all_eq_true.mp row11_2 j (List.mem_range.mpr hj)
  | 3, j, _, hj => List.all_eq_true.mp row11_3 j (List.mem_range.mpr hj)
  | 4, j, _, hj => List.all_eq_true.mp row11_4 j (List.mem_range.mpr hj)
  | 5, j, _, hj => List.all_eq_true.mp row11_5 j (List.mem_range.mpr hj)
  | 6, j, _, hj => List.all_eq_true.mp row11_6 j (List.mem_range.mpr hj)
  | n + 7, _, h, _ => absurd h (by omega)
def StL (ρ : EnvS) : Prop := ∃ a b c d e f g : Slot, ρ = [.sh .dl, a, b, c, d, e, f, g] ∧ (plainS a && plainS b && plainS c && plainS d && plainS e && plainS f && plainS g) = true
theorem okR_out {p : Prog Out} (h : okR p = true) : ∃ ρ, p = .ret (.nx ρ) ∧ StL ρ := by
  unfold okR at h
  split at h
  · exact ⟨_, rfl, _, _, _, _, _, _, _, rfl, h⟩
  · exact nomatch h
theorem clear_one {j : Nat} {js : List Nat} {ρ : EnvS} {s : Slot} (e : ρ[j]? = some s) (p : plainS s = true) : clearS (j :: js) ρ = clearS js (ρ.set j .no) := by
  have z : clearS (j :: js) ρ = clearS js (match ρ[j]? with
    | some (.sh _) => ρ.set j .no
    | _ => ρ) := rfl
  rw [z, e]
  cases s with
  | no =>
    have e2 : ρ.set j .no = ρ := by
      apply List.ext_getElem?
      intro k
      by_cases q : j = k
      · subst q
        rw [List.getElem?_set_self (List.getElem?_eq_some_iff.mp e).1, e]
      · rw [List.getElem?_set_ne q]
    rw [e2]
  | sh t => rfl
  | _ => exact nomatch p
section
variable {Φo : Out → Prop} {Φ : T → Prop} {Ψ : XP} {e : EnvS} {ρ : Env} {ms : M (List T)} {f : T → EnvS → Option EnvS} {b : MS} {lo : Int} {n : Nat}
theorem hv_for (h : (ms (e.map seeS)).All (fun ts => (vLoop f b ts e).All Φo Ψ) Ψ) : (vFor ms f b e).All Φo Ψ := all_bind.mpr h
theorem hv_drawR (h : (ms ρ).All (fun xs => ∃ k : Nat, xs = [.dl, .int (k : Int)] ∧ k ≤ 20 ∧ 0 < n ∧ n ≤ 1000000 ∧ ∀ i : Nat, i < n → Φ (.int (lo + (i : Int)))) Ψ) : (vDrawR lo n ms ρ).All Φ Ψ := all_bind.mpr (all_imp (fun xs ⟨k, e, h0, h1, h2, h3⟩ => by subst e; show Prog.All (if k ≤ 20 then _ else _) _ _; rw [if_pos h0]; exact ⟨h1, h2, h3⟩) (fun _ _ _ h => h) h)
end
theorem law_by (mb_law_0 : MS) (all49 : ∀ i j : Nat, i < 7 → j < 7 → okR (mb_law_0 (env11 i j)) = true) : (runF 8
          (vSeq (vFor (vRng1 (vCons (vC (.int 4)) vNil)) (gN 1) (vClear [2, 3, 4, 5, 6, 7] (vSeq (vPs (vpSh [] 2 (vDrawR (-3) 7 (vCons (vVar 0) (vCons (vVar 1) vNil))) (vpSh [2] 3 (vDrawR (-3) 7 (vCons (vVar 0) (vCons (v2 addT (vVar 1) (vC (.int 9))) vNil))) vpNil)))
          (vClear [1] mb_law_0))))
          (vRet (vC (.bl true)))) [.dl]).All (fun t => t = .bl true) fun _ _ _ => False := by
  with_reducible refine hv_run ?_
  with_reducible refine hv_seq ?_
  with_reducible refine hv_for ?_
  have e0 : ∀ ρ : Env, vRng1 (vCons (vC (.int 4)) vNil) ρ = .ret [T.int 0, .int 1, .int 2, .int 3] := fun _ => rfl
  rw [e0]
  refine all_ret.mpr ?_
  with_reducible refine loop_all (I := fun ts ρ => (∀ t ∈ ts, ∃ k : Nat, k ≤ 3 ∧ t = .int (k : Int)) ∧ StL ρ) ?_ ?_ ?_
  · intro t ts ρ ⟨h1, h2⟩
    obtain ⟨k, hk, rfl⟩ := h1 t List.mem_cons_self
    obtain ⟨a, b, c, d, e, f, g, rfl, hp⟩ := h2
    simp only [Bool.and_eq_true] at hp
    obtain ⟨⟨⟨⟨⟨⟨pa, pb⟩, pc⟩, pd⟩, pe⟩, pf⟩, pg⟩ := hp
    refine ⟨[.sh .dl, .sh (.int (k : Int)), b, c, d, e, f, g], rfl, ?_⟩
    have e1 : clearS [2, 3, 4, 5, 6, 7] [.sh .dl, .sh (.int (k : Int)), b, c, d, e, f, g] = [.sh .dl, .sh (.int (k : Int)), .no, .no, .no, .no, .no, .no] := by
      rw [clear_one (s := b) rfl pb, clear_one (s := c) rfl pc, clear_one (s := d) rfl pd, clear_one (s := e) rfl pe, clear_one (s := f) rfl pf, clear_one (s := g) rfl pg]
      rfl
    show Prog.All (vSeq _ _ (clearS _ _)) _ _
    rw [e1]
    with_reducible refine hv_seq ?_
    with_reducible refine hv_ps ?_
    with_reducible refine hv_psh ?_
    with_reducible refine hv_drawR ?_
    show ∃ m : Nat, [T.dl, .int (k : Int)] = [.dl, .int (m : Int)] ∧ m ≤ 20 ∧ 0 < 7 ∧ 7 ≤ 1000000 ∧ ∀ i : Nat, i < 7 → _
    refine ⟨k, rfl, by omega, by decide, by decide, fun i hi => ?_⟩
    with_reducible refine hv_psh ?_
    with_reducible refine hv_drawR ?_
    show ∃ m : Nat, [T.dl, .int ((k : Int) + 9)] = [.dl, .int (m : Int)] ∧ m ≤ 20 ∧ 0 < 7 ∧ 7 ≤ 1000000 ∧ ∀ i : Nat, i < 7 → _
    refine ⟨k + 9, rfl, by omega, by decide, by decide, fun j hj => ?_⟩
    with_reducible refine hv_pnil ?_
    with_reducible refine hv_nx ?_
    show Prog.All (mb_law_0 (env11 i j)) _ _
    obtain ⟨ρ2, e2, h2⟩ := okR_out (all49 i j hi hj)
    rw [e2]
    exact ⟨fun t ht => h1 t (List.mem_cons_of_mem _ ht), h2⟩
  · exact fun ρ h => hv_nx (hv_ret (hv_c (hv_out rfl)))
  · refine ⟨?_, .no, .no, .no, .no, .no, .no, .no, rfl, rfl⟩
    intro t ht
    simp only [List.mem_cons, List.not_mem_nil, or_false] at ht
    rcases ht with rfl | rfl | rfl | rfl
    · exact ⟨0, by decide, rfl⟩
    · exact ⟨1, by decide, rfl⟩
    · exact ⟨2, by decide, rfl⟩
    · exact ⟨3, by decide, rfl⟩
theorem law_all : (m_law [.dl]).All (fun t => t = .bl true) fun _ _ _ => False := by
  unfold m_law
  exact law_by mb_law_0 all49
section
variable {P : Program} {w : World} {A : Ads} {K : PySem.W.Frag} {mg : Str → Option Value} {base : Heap} {k : Nat} {f : Addr} {fd : FuncData} {ps : List Str}
def spLaw (K : PySem.W.Frag) : Sp := fun vs H Q _ => ∃ (a : Addr) (ns : List Int), vs = [.ref a] ∧ ns.length ≤ 63 ∧ SqL K H a (ns.map V.int) ∧ ∀ H', Q (.bl true) H'
theorem binds_whole {x qual : Str} {st : Stmt} {f : Addr} {fd : FuncData} {ps : List Str} (F : Fun K x qual st f fd)
    (b : ∀ (kV doc pm : Value) (an : Option Addr) (cdv ct : Value) (us : List Value), us.length = ps.length → bindArgs (PySem.W.fnOf x qual (defArgs st) (defBody st) (defScope st) .none kV doc pm an cdv ct) ⟨us, []⟩ = pure (ps.zip us)) (s : Shared) (us : List Value) (hl : us.length = ps.length) : BindsTo s fd ⟨us, []⟩ (ps.zip us) := by
  obtain ⟨_, _, kV, doc, pm, an, cdv, ct, _, rfl, _, _⟩ := F.ex
  intro M A E Q q
  rw [b kV doc pm an cdv ct us hl]
  exact wpAny_pure q
theorem fin_law (F : FnOk P w K mg base CX0 k f fd ps (spM (vcx A K w (spNumber K)) 1 m_law)) : FnG P w K mg base CX0 k f fd ps (spLaw K) := ⟨fun A' outer s H args us vs Q E _ hr e0 hb r ⟨a, ns, ev, hn, hS, q⟩ => F.run A' outer s H args us vs Q E hr e0 hb r (by
  subst ev
  refine ⟨Free, [.dl], rfl, free_j, .cons (.dl fun H1 g1 y lo n Q' E' ok _ _ _ qq => ?_) .nil, all_imp (fun t ht v H' g' rv => ?_) (fun _ _ _ h => h) law_all⟩
  · obtain ⟨⟨m, hm, rfl⟩, rfl, rfl⟩ := ok
    refine ⟨a, ns, m, rfl, SqL.ext hS g1.free, by omega, hm, fun i H' l1 l2 sm => ?_⟩
    have e : i = -3 + ((i + 3).toNat : Int) := by omega
    rw [e]
    exact qq _ (by omega) H' (Gv.same free_j sm)
  · subst ht
    cases rv
    exact q H')⟩
end
end Vi

namespace Vi
open PySem PySem.Spec PyProof.Rows L2 Fk
theorem gather {K : PySem.W.Frag} {h : Heap} {mg : Str → Option Value} (X : K.In h) (G : h.Ns mainGlobals mg) (w : World) {f_is_integer f_is_name f_is_sequence f_is_place f_all_differ f_split_words f_is_mark_or f_is_added f_refuse_wrong_rows f_row_of_words f_row_with_text f_rows_of f_fitting f_or_same f_of_both f_step_table f_all_steps f_join_table f_part_table f_are_marks f_are_words_of f_refuse_wrong_books f_lines f_can_stand f_head f_row f_refuse_other_marks f_asking_rows f_law f_law_number Row Step Join Part Book f_Step_init f_Row_str f_Row_eq f_Row_named f_Join_init f_Part_init f_Book_init f_Book_str f_Book_eq p_Book_read f_Book_read f_Book_step f_Book_joined f_Book_parted f_Book_without f_Book_asking f_Row_init p_Row_read f_Row_read ADDED KEYWORDS KINDS EDITS HEADS : Addr}
    {oc1 kV1 dc1 pm1 cd1 ct1 : Value} {od1 an1 : Option Addr} {sl1 : Array (Option Value)}
    {oc2 kV2 dc2 pm2 cd2 ct2 : Value} {od2 an2 : Option Addr} {sl2 : Array (Option Value)}
    {oc3 kV3 dc3 pm3 cd3 ct3 : Value} {od3 an3 : Option Addr} {sl3 : Array (Option Value)}
    {oc4 kV4 dc4 pm4 cd4 ct4 : Value} {od4 an4 : Option Addr} {sl4 : Array (Option Value)}
    {oc5 kV5 dc5 pm5 cd5 ct5 : Value} {od5 an5 : Option Addr} {sl5 : Array (Option Value)}
    {oc6 kV6 dc6 pm6 cd6 ct6 : Value} {od6 an6 : Option Addr} {sl6 : Array (Option Value)}
    {oc7 kV7 dc7 pm7 cd7 ct7 : Value} {od7 an7 : Option Addr} {sl7 : Array (Option Value)}
    {oc8 kV8 dc8 pm8 cd8 ct8 : Value} {od8 an8 : Option Addr} {sl8 : Array (Option Value)}
    {oc9 kV9 dc9 pm9 cd9 ct9 : Value} {od9 an9 : Option Addr} {sl9 : Array (Option Value)}
    {oc10 kV10 dc10 pm10 cd10 ct10 : Value} {od10 an10 : Option Addr} {sl10 : Array (Option Value)}
    {oc11 kV11 dc11 pm11 cd11 ct11 : Value} {od11 an11 : Option Addr} {sl11 : Array (Option Value)}
    {oc12 kV12 dc12 pm12 cd12 ct12 : Value} {od12 an12 : Option Addr} {sl12 : Array (Option Value)}
    {oc13 kV13 dc13 pm13 cd13 ct13 : Value} {od13 an13 : Option Addr} {sl13 : Array (Option Value)}
    {oc14 kV14 dc14 pm14 cd14 ct14 : Value} {od14 an14 : Option Addr} {sl14 : Array (Option Value)}
    {oc15 kV15 dc15 pm15 cd15 ct15 : Value} {od15 an15 : Option Addr} {sl15 : Array (Option Value)}
    {oc16 kV16 dc16 pm16 cd16 ct16 : Value} {od16 an16 : Option Addr} {sl16 : Array (Option Value)}
    {oc17 kV17 dc17 pm17 cd17 ct17 : Value} {od17 an17 : Option Addr} {sl17 : Array (Option Value)}
    {oc18 kV18 dc18 pm18 cd18 ct18 : Value} {od18 an18 : Option Addr} {sl18 : Array (Option Value)}
    {oc19 kV19 dc19 pm19 cd19 ct19 : Value} {od19 an19 : Option Addr} {sl19 : Array (Option Value)}
    {oc20 kV20 dc20 pm20 cd20 ct20 : Value} {od20 an20 : Option Addr} {sl20 : Array (Option Value)}
    {oc21 kV21 dc21 pm21 cd21 ct21 : Value} {od21 an21 : Option Addr} {sl21 : Array (Option Value)}
    {oc22 kV22 dc22 pm22 cd22 ct22 : Value} {od22 an22 : Option Addr} {sl22 : Array (Option Value)}
    {oc23 kV23 dc23 pm23 cd23 ct23 : Value} {od23 an23 : Option Addr} {sl23 : Array (Option Value)}
    {oc24 kV24 dc24 pm24 cd24 ct24 : Value} {od24 an24 : Option Addr} {sl24 : Array (Option Value)}
    {oc25 kV25 dc25 pm25 cd25 ct25 : Value} {od25 an25 : Option Addr} {sl25 : Array (Option Value)}
    {oc26 kV26 dc26 pm26 cd26 ct26 : Value} {od26 an26 : Option Addr} {sl26 : Array (Option Value)}
    {oc27 kV27 dc27 pm27 cd27 ct27 : Value} {od27 an27 : Option Addr} {sl27 : Array (Option Value)}
    {oc28 kV28 dc28 pm28 cd28 ct28 : Value} {od28 an28 : Option Addr} {sl28 : Array (Option Value)}
    {oc29 kV29 dc29 pm29 cd29 ct29 : Value} {od29 an29 : Option Addr} {sl29 : Array (Option Value)}
    {oc30 kV30 dc30 pm30 cd30 ct30 : Value} {od30 an30 : Option Addr} {sl30 : Array (Option Value)}
    {oc31 kV31 dc31 pm31 cd31 ct31 : Value} {od31 an31 : Option Addr} {sl31 : Array (Option Value)}
    {oc32 kV32 dc32 pm32 cd32 ct32 : Value} {od32 an32 : Option Addr} {sl32 : Array (Option Value)}
    {oc33 kV33 dc33 pm33 cd33 ct33 : Value} {od33 an33 : Option Addr} {sl33 : Array (Option Value)}
    {oc34 kV34 dc34 pm34 cd34 ct34 : Value} {od34 an34 : Option Addr} {sl34 : Array (Option Value)}
    {oc35 kV35 dc35 pm35 cd35 ct35 : Value} {od35 an35 : Option Addr} {sl35 : Array (Option Value)}
    {oc36 kV36 dc36 pm36 cd36 ct36 : Value} {od36 an36 : Option Addr} {sl36 : Array (Option Value)}
    {oc37 kV37 dc37 pm37 cd37 ct37 : Value} {od37 an37 : Option Addr} {sl37 : Array (Option Value)}
    {oc38 kV38 dc38 pm38 cd38 ct38 : Value} {od38 an38 : Option Addr} {sl38 : Array (Option Value)}
    {oc39 kV39 dc39 pm39 cd39 ct39 : Value} {od39 an39 : Option Addr} {sl39 : Array (Option Value)}
    {rcm_Book_read : List Value}
    {oc40 kV40 dc40 pm40 cd40 ct40 : Value} {od40 an40 : Option Addr} {sl40 : Array (Option Value)}
    {oc41 kV41 dc41 pm41 cd41 ct41 : Value} {od41 an41 : Option Addr} {sl41 : Array (Option Value)}
    {oc42 kV42 dc42 pm42 cd42 ct42 : Value} {od42 an42 : Option Addr} {sl42 : Array (Option Value)}
    {oc43 kV43 dc43 pm43 cd43 ct43 : Value} {od43 an43 : Option Addr} {sl43 : Array (Option Value)}
    {oc44 kV44 dc44 pm44 cd44 ct44 : Value} {od44 an44 : Option Addr} {sl44 : Array (Option Value)}
    {oc45 kV45 dc45 pm45 cd45 ct45 : Value} {od45 an45 : Option Addr} {sl45 : Array (Option Value)}
    {oc46 kV46 dc46 pm46 cd46 ct46 : Value} {od46 an46 : Option Addr} {sl46 : Array (Option Value)}
    {rcm_Row_read : List Value}
    {oc47 kV47 dc47 pm47 cd47 ct47 : Value} {od47 an47 : Option Addr} {sl47 : Array (Option Value)}
    {oDADDED : Obj} {eDADDED : Array DictEntry} {nDADDED : Nat}
    {oTKEYWORDS : Obj} {iTKEYWORDS : Array Value} {nTKEYWORDS : Nat}
    {oTKINDS : Obj} {iTKINDS : Array Value} {nTKINDS : Nat}
    {oTEDITS : Obj} {iTEDITS : Array Value} {nTEDITS : Nat}
    {oTHEADS : Obj} {iTHEADS : Array Value} {nTHEADS : Nat}
    (z_abs : PySem.W.nsIn K mainGlobals "abs" = some none)
    (z_all : PySem.W.nsIn K mainGlobals "all" = some none)
    (z_bool : PySem.W.nsIn K mainGlobals "bool" = some none)
    (z_enumerate : PySem.W.nsIn K mainGlobals "enumerate" = some none)
    (z_int : PySem.W.nsIn K mainGlobals "int" = some none)
    (z_isinstance : PySem.W.nsIn K mainGlobals "isinstance" = some none)
    (z_len : PySem.W.nsIn K mainGlobals "len" = some none)
    (z_list : PySem.W.nsIn K mainGlobals "list" = some none)
    (z_range : PySem.W.nsIn K mainGlobals "range" = some none)
    (z_reversed : PySem.W.nsIn K mainGlobals "reversed" = some none)
    (z_set : PySem.W.nsIn K mainGlobals "set" = some none)
    (z_sorted : PySem.W.nsIn K mainGlobals "sorted" = some none)
    (z_str : PySem.W.nsIn K mainGlobals "str" = some none)
    (z_tuple : PySem.W.nsIn K mainGlobals "tuple" = some none)
    (g_is_integer : PySem.W.nsIn K mainGlobals "is_integer" = some (some (.ref f_is_integer)))
    (l1 : K.lookup f_is_integer = some ⟨oc1, od1, .func (PySem.W.fnOf "is_integer" "is_integer" (defArgs s_is_integer) (defBody s_is_integer) (defScope s_is_integer) .none kV1 dc1 pm1 an1 cd1 ct1), sl1⟩)
    (c1 : PySem.W.codeIn K cd1 "is_integer" = true)
    (k1 : PySem.W.keepIn K (.ref f_is_integer) = true)
    (g_is_name : PySem.W.nsIn K mainGlobals "is_name" = some (some (.ref f_is_name)))
    (l2 : K.lookup f_is_name = some ⟨oc2, od2, .func (PySem.W.fnOf "is_name" "is_name" (defArgs s_is_name) (defBody s_is_name) (defScope s_is_name) .none kV2 dc2 pm2 an2 cd2 ct2), sl2⟩)
    (c2 : PySem.W.codeIn K cd2 "is_name" = true)
    (k2 : PySem.W.keepIn K (.ref f_is_name) = true)
    (g_is_sequence : PySem.W.nsIn K mainGlobals "is_sequence" = some (some (.ref f_is_sequence)))
    (l3 : K.lookup f_is_sequence = some ⟨oc3, od3, .func (PySem.W.fnOf "is_sequence" "is_sequence" (defArgs s_is_sequence) (defBody s_is_sequence) (defScope s_is_sequence) .none kV3 dc3 pm3 an3 cd3 ct3), sl3⟩)
    (c3 : PySem.W.codeIn K cd3 "is_sequence" = true)
    (k3 : PySem.W.keepIn K (.ref f_is_sequence) = true)
    (g_is_place : PySem.W.nsIn K mainGlobals "is_place" = some (some (.ref f_is_place)))
    (l4 : K.lookup f_is_place = some ⟨oc4, od4, .func (PySem.W.fnOf "is_place" "is_place" (defArgs s_is_place) (defBody s_is_place) (defScope s_is_place) .none kV4 dc4 pm4 an4 cd4 ct4), sl4⟩)
    (c4 : PySem.W.codeIn K cd4 "is_place" = true)
    (k4 : PySem.W.keepIn K (.ref f_is_place) = true)
    (g_all_differ : PySem.W.nsIn K mainGlobals "all_differ" = some (some (.ref f_all_differ)))
    (l5 : K.lookup f_all_differ = some ⟨oc5, od5, .func (PySem.W.fnOf "all_differ" "all_differ" (defArgs s_all_differ) (defBody s_all_differ) (defScope s_all_differ) .none kV5 dc5 pm5 an5 cd5 ct5), sl5⟩)
    (c5 : PySem.W.codeIn K cd5 "all_differ" = true)
    (k5 : PySem.W.keepIn K (.ref f_all_differ) = true)
    (g_split_words : PySem.W.nsIn K mainGlobals "split_words" = some (some (.ref f_split_words)))
    (l6 : K.lookup f_split_words = some ⟨oc6, od6, .func (PySem.W.fnOf "split_words" "split_words" (defArgs s_split_words) (defBody s_split_words) (defScope s_split_words) .none kV6 dc6 pm6 an6 cd6 ct6), sl6⟩)
    (c6 : PySem.W.codeIn K cd6 "split_words" = true)
    (k6 : PySem.W.keepIn K (.ref f_split_words) = true)
    (g_is_mark_or : PySem.W.nsIn K mainGlobals "_is_mark_or" = some (some (.ref f_is_mark_or)))
    (l7 : K.lookup f_is_mark_or = some ⟨oc7, od7, .func (PySem.W.fnOf "_is_mark_or" "_is_mark_or" (defArgs s_is_mark_or) (defBody s_is_mark_or) (defScope s_is_mark_or) .none kV7 dc7 pm7 an7 cd7 ct7), sl7⟩)
    (c7 : PySem.W.codeIn K cd7 "_is_mark_or" = true)
    (k7 : PySem.W.keepIn K (.ref f_is_mark_or) = true)
    (g_is_added : PySem.W.nsIn K mainGlobals "_is_added" = some (some (.ref f_is_added)))
    (l8 : K.lookup f_is_added = some ⟨oc8, od8, .func (PySem.W.fnOf "_is_added" "_is_added" (defArgs s_is_added) (defBody s_is_added) (defScope s_is_added) .none kV8 dc8 pm8 an8 cd8 ct8), sl8⟩)
    (c8 : PySem.W.codeIn K cd8 "_is_added" = true)
    (k8 : PySem.W.keepIn K (.ref f_is_added) = true)
    (g_refuse_wrong_rows : PySem.W.nsIn K mainGlobals "refuse_wrong_rows" = some (some (.ref f_refuse_wrong_rows)))
    (l9 : K.lookup f_refuse_wrong_rows = some ⟨oc9, od9, .func (PySem.W.fnOf "_refuse_wrong" "_refuse_wrong" (defArgs s_refuse_wrong_rows) (defBody s_refuse_wrong_rows) (defScope s_refuse_wrong_rows) .none kV9 dc9 pm9 an9 cd9 ct9), sl9⟩)
    (c9 : PySem.W.codeIn K cd9 "_refuse_wrong" = true)
    (k9 : PySem.W.keepIn K (.ref f_refuse_wrong_rows) = true)
    (g_row_of_words : PySem.W.nsIn K mainGlobals "_row_of_words" = some (some (.ref f_row_of_words)))
    (l10 : K.lookup f_row_of_words = some ⟨oc10, od10, .func (PySem.W.fnOf "_row_of_words" "_row_of_words" (defArgs s_row_of_words) (defBody s_row_of_words) (defScope s_row_of_words) .none kV10 dc10 pm10 an10 cd10 ct10), sl10⟩)
    (c10 : PySem.W.codeIn K cd10 "_row_of_words" = true)
    (k10 : PySem.W.keepIn K (.ref f_row_of_words) = true)
    (g_row_with_text : PySem.W.nsIn K mainGlobals "_row_with_text" = some (some (.ref f_row_with_text)))
    (l11 : K.lookup f_row_with_text = some ⟨oc11, od11, .func (PySem.W.fnOf "_row_with_text" "_row_with_text" (defArgs s_row_with_text) (defBody s_row_with_text) (defScope s_row_with_text) .none kV11 dc11 pm11 an11 cd11 ct11), sl11⟩)
    (c11 : PySem.W.codeIn K cd11 "_row_with_text" = true)
    (k11 : PySem.W.keepIn K (.ref f_row_with_text) = true)
    (g_rows_of : PySem.W.nsIn K mainGlobals "rows_of" = some (some (.ref f_rows_of)))
    (l12 : K.lookup f_rows_of = some ⟨oc12, od12, .func (PySem.W.fnOf "rows_of" "rows_of" (defArgs s_rows_of) (defBody s_rows_of) (defScope s_rows_of) .none kV12 dc12 pm12 an12 cd12 ct12), sl12⟩)
    (c12 : PySem.W.codeIn K cd12 "rows_of" = true)
    (k12 : PySem.W.keepIn K (.ref f_rows_of) = true)
    (g_fitting : PySem.W.nsIn K mainGlobals "_fitting" = some (some (.ref f_fitting)))
    (l13 : K.lookup f_fitting = some ⟨oc13, od13, .func (PySem.W.fnOf "_fitting" "_fitting" (defArgs s_fitting) (defBody s_fitting) (defScope s_fitting) .none kV13 dc13 pm13 an13 cd13 ct13), sl13⟩)
    (c13 : PySem.W.codeIn K cd13 "_fitting" = true)
    (k13 : PySem.W.keepIn K (.ref f_fitting) = true)
    (g_or_same : PySem.W.nsIn K mainGlobals "_or_same" = some (some (.ref f_or_same)))
    (l14 : K.lookup f_or_same = some ⟨oc14, od14, .func (PySem.W.fnOf "_or_same" "_or_same" (defArgs s_or_same) (defBody s_or_same) (defScope s_or_same) .none kV14 dc14 pm14 an14 cd14 ct14), sl14⟩)
    (c14 : PySem.W.codeIn K cd14 "_or_same" = true)
    (k14 : PySem.W.keepIn K (.ref f_or_same) = true)
    (g_of_both : PySem.W.nsIn K mainGlobals "_of_both" = some (some (.ref f_of_both)))
    (l15 : K.lookup f_of_both = some ⟨oc15, od15, .func (PySem.W.fnOf "_of_both" "_of_both" (defArgs s_of_both) (defBody s_of_both) (defScope s_of_both) .none kV15 dc15 pm15 an15 cd15 ct15), sl15⟩)
    (c15 : PySem.W.codeIn K cd15 "_of_both" = true)
    (k15 : PySem.W.keepIn K (.ref f_of_both) = true)
    (g_step_table : PySem.W.nsIn K mainGlobals "step_table" = some (some (.ref f_step_table)))
    (l16 : K.lookup f_step_table = some ⟨oc16, od16, .func (PySem.W.fnOf "step_table" "step_table" (defArgs s_step_table) (defBody s_step_table) (defScope s_step_table) .none kV16 dc16 pm16 an16 cd16 ct16), sl16⟩)
    (c16 : PySem.W.codeIn K cd16 "step_table" = true)
    (k16 : PySem.W.keepIn K (.ref f_step_table) = true)
    (g_all_steps : PySem.W.nsIn K mainGlobals "all_steps" = some (some (.ref f_all_steps)))
    (l17 : K.lookup f_all_steps = some ⟨oc17, od17, .func (PySem.W.fnOf "all_steps" "all_steps" (defArgs s_all_steps) (defBody s_all_steps) (defScope s_all_steps) .none kV17 dc17 pm17 an17 cd17 ct17), sl17⟩)
    (c17 : PySem.W.codeIn K cd17 "all_steps" = true)
    (k17 : PySem.W.keepIn K (.ref f_all_steps) = true)
    (g_join_table : PySem.W.nsIn K mainGlobals "join_table" = some (some (.ref f_join_table)))
    (l18 : K.lookup f_join_table = some ⟨oc18, od18, .func (PySem.W.fnOf "join_table" "join_table" (defArgs s_join_table) (defBody s_join_table) (defScope s_join_table) .none kV18 dc18 pm18 an18 cd18 ct18), sl18⟩)
    (c18 : PySem.W.codeIn K cd18 "join_table" = true)
    (k18 : PySem.W.keepIn K (.ref f_join_table) = true)
    (g_part_table : PySem.W.nsIn K mainGlobals "part_table" = some (some (.ref f_part_table)))
    (l19 : K.lookup f_part_table = some ⟨oc19, od19, .func (PySem.W.fnOf "part_table" "part_table" (defArgs s_part_table) (defBody s_part_table) (defScope s_part_table) .none kV19 dc19 pm19 an19 cd19 ct19), sl19⟩)
    (c19 : PySem.W.codeIn K cd19 "part_table" = true)
    (k19 : PySem.W.keepIn K (.ref f_part_table) = true)
    (g_are_marks : PySem.W.nsIn K mainGlobals "_are_marks" = some (some (.ref f_are_marks)))
    (l20 : K.lookup f_are_marks = some ⟨oc20, od20, .func (PySem.W.fnOf "_are_marks" "_are_marks" (defArgs s_are_marks) (defBody s_are_marks) (defScope s_are_marks) .none kV20 dc20 pm20 an20 cd20 ct20), sl20⟩)
    (c20 : PySem.W.codeIn K cd20 "_are_marks" = true)
    (k20 : PySem.W.keepIn K (.ref f_are_marks) = true)
    (g_are_words_of : PySem.W.nsIn K mainGlobals "_are_words_of" = some (some (.ref f_are_words_of)))
    (l21 : K.lookup f_are_words_of = some ⟨oc21, od21, .func (PySem.W.fnOf "_are_words_of" "_are_words_of" (defArgs s_are_words_of) (defBody s_are_words_of) (defScope s_are_words_of) .none kV21 dc21 pm21 an21 cd21 ct21), sl21⟩)
    (c21 : PySem.W.codeIn K cd21 "_are_words_of" = true)
    (k21 : PySem.W.keepIn K (.ref f_are_words_of) = true)
    (g_refuse_wrong_books : PySem.W.nsIn K mainGlobals "refuse_wrong_books" = some (some (.ref f_refuse_wrong_books)))
    (l22 : K.lookup f_refuse_wrong_books = some ⟨oc22, od22, .func (PySem.W.fnOf "_refuse_wrong" "_refuse_wrong" (defArgs s_refuse_wrong_books) (defBody s_refuse_wrong_books) (defScope s_refuse_wrong_books) .none kV22 dc22 pm22 an22 cd22 ct22), sl22⟩)
    (c22 : PySem.W.codeIn K cd22 "_refuse_wrong" = true)
    (k22 : PySem.W.keepIn K (.ref f_refuse_wrong_books) = true)
    (g_lines : PySem.W.nsIn K mainGlobals "_lines" = some (some (.ref f_lines)))
    (l23 : K.lookup f_lines = some ⟨oc23, od23, .func (PySem.W.fnOf "_lines" "_lines" (defArgs s_lines) (defBody s_lines) (defScope s_lines) .none kV23 dc23 pm23 an23 cd23 ct23), sl23⟩)
    (c23 : PySem.W.codeIn K cd23 "_lines" = true)
    (k23 : PySem.W.keepIn K (.ref f_lines) = true)
    (g_can_stand : PySem.W.nsIn K mainGlobals "_can_stand" = some (some (.ref f_can_stand)))
    (l24 : K.lookup f_can_stand = some ⟨oc24, od24, .func (PySem.W.fnOf "_can_stand" "_can_stand" (defArgs s_can_stand) (defBody s_can_stand) (defScope s_can_stand) .none kV24 dc24 pm24 an24 cd24 ct24), sl24⟩)
    (c24 : PySem.W.codeIn K cd24 "_can_stand" = true)
    (k24 : PySem.W.keepIn K (.ref f_can_stand) = true)
    (g_head : PySem.W.nsIn K mainGlobals "_head" = some (some (.ref f_head)))
    (l25 : K.lookup f_head = some ⟨oc25, od25, .func (PySem.W.fnOf "_head" "_head" (defArgs s_head) (defBody s_head) (defScope s_head) .none kV25 dc25 pm25 an25 cd25 ct25), sl25⟩)
    (c25 : PySem.W.codeIn K cd25 "_head" = true)
    (k25 : PySem.W.keepIn K (.ref f_head) = true)
    (g_row : PySem.W.nsIn K mainGlobals "_row" = some (some (.ref f_row)))
    (l26 : K.lookup f_row = some ⟨oc26, od26, .func (PySem.W.fnOf "_row" "_row" (defArgs s_row) (defBody s_row) (defScope s_row) .none kV26 dc26 pm26 an26 cd26 ct26), sl26⟩)
    (c26 : PySem.W.codeIn K cd26 "_row" = true)
    (k26 : PySem.W.keepIn K (.ref f_row) = true)
    (g_refuse_other_marks : PySem.W.nsIn K mainGlobals "_refuse_other_marks" = some (some (.ref f_refuse_other_marks)))
    (l27 : K.lookup f_refuse_other_marks = some ⟨oc27, od27, .func (PySem.W.fnOf "_refuse_other_marks" "_refuse_other_marks" (defArgs s_refuse_other_marks) (defBody s_refuse_other_marks) (defScope s_refuse_other_marks) .none kV27 dc27 pm27 an27 cd27 ct27), sl27⟩)
    (c27 : PySem.W.codeIn K cd27 "_refuse_other_marks" = true)
    (k27 : PySem.W.keepIn K (.ref f_refuse_other_marks) = true)
    (g_asking_rows : PySem.W.nsIn K mainGlobals "_asking_rows" = some (some (.ref f_asking_rows)))
    (l28 : K.lookup f_asking_rows = some ⟨oc28, od28, .func (PySem.W.fnOf "_asking_rows" "_asking_rows" (defArgs s_asking_rows) (defBody s_asking_rows) (defScope s_asking_rows) .none kV28 dc28 pm28 an28 cd28 ct28), sl28⟩)
    (c28 : PySem.W.codeIn K cd28 "_asking_rows" = true)
    (k28 : PySem.W.keepIn K (.ref f_asking_rows) = true)
    (g_law : PySem.W.nsIn K mainGlobals "law" = some (some (.ref f_law)))
    (l29 : K.lookup f_law = some ⟨oc29, od29, .func (PySem.W.fnOf "law" "law" (defArgs s_law) (defBody s_law) (defScope s_law) .none kV29 dc29 pm29 an29 cd29 ct29), sl29⟩)
    (c29 : PySem.W.codeIn K cd29 "law" = true)
    (k29 : PySem.W.keepIn K (.ref f_law) = true)
    (g_law_number : PySem.W.nsIn K mainGlobals "_law_number" = some (some (.ref f_law_number)))
    (l30 : K.lookup f_law_number = some ⟨oc30, od30, .func (PySem.W.fnOf "_law_number" "_law_number" (defArgs s_law_number) (defBody s_law_number) (defScope s_law_number) .none kV30 dc30 pm30 an30 cd30 ct30), sl30⟩)
    (c30 : PySem.W.codeIn K cd30 "_law_number" = true)
    (k30 : PySem.W.keepIn K (.ref f_law_number) = true)
    (g_Row : PySem.W.nsIn K mainGlobals "Row" = some (some (.ref Row)))
    (g_Step : PySem.W.nsIn K mainGlobals "Step" = some (some (.ref Step)))
    (g_Join : PySem.W.nsIn K mainGlobals "Join" = some (some (.ref Join)))
    (g_Part : PySem.W.nsIn K mainGlobals "Part" = some (some (.ref Part)))
    (g_Book : PySem.W.nsIn K mainGlobals "Book" = some (some (.ref Book)))
    (opg_Row : PySem.W.plainGet K Row Str.empty = true)
    (ohd_Row : PySem.W.hasDictIn K Row = true)
    (opo_Row : PySem.W.plainOver K Row = true)
    (osa_Row : PySem.W.findIn K (.ref Row) "__setattr__" = some (some (.builtin "object.__setattr__")))
    (oma_Row : PySem.W.makesIn K Row = true)
    (okp_Row : PySem.W.keepIn K (.ref Row) = true)
    (oha_Row : PySem.W.findIn K (.ref Row) "__class__" = some (some (.builtin "object.__class__")))
    (one_Row : PySem.W.findIn K (.ref Row) "__ne__" = some (some (.builtin "object.__ne__")))
    (omo_Row : PySem.W.mroIn K Row (.type "object") = some true)
    (oic_Row : PySem.W.isClsIn K Row = true)
    (oty_Row : PySem.W.typeIn K (.ref Row) = some (.type "type"))
    (ome_Row : PySem.W.subIn K (.ref Row) (.ref Row) = some true)
    (opg_Step : PySem.W.plainGet K Step Str.empty = true)
    (ohd_Step : PySem.W.hasDictIn K Step = true)
    (opo_Step : PySem.W.plainOver K Step = true)
    (osa_Step : PySem.W.findIn K (.ref Step) "__setattr__" = some (some (.builtin "object.__setattr__")))
    (oma_Step : PySem.W.makesIn K Step = true)
    (okp_Step : PySem.W.keepIn K (.ref Step) = true)
    (oha_Step : PySem.W.findIn K (.ref Step) "__class__" = some (some (.builtin "object.__class__")))
    (one_Step : PySem.W.findIn K (.ref Step) "__ne__" = some (some (.builtin "object.__ne__")))
    (omo_Step : PySem.W.mroIn K Step (.type "object") = some true)
    (oic_Step : PySem.W.isClsIn K Step = true)
    (oty_Step : PySem.W.typeIn K (.ref Step) = some (.type "type"))
    (ome_Step : PySem.W.subIn K (.ref Step) (.ref Step) = some true)
    (opg_Join : PySem.W.plainGet K Join Str.empty = true)
    (ohd_Join : PySem.W.hasDictIn K Join = true)
    (opo_Join : PySem.W.plainOver K Join = true)
    (osa_Join : PySem.W.findIn K (.ref Join) "__setattr__" = some (some (.builtin "object.__setattr__")))
    (oma_Join : PySem.W.makesIn K Join = true)
    (okp_Join : PySem.W.keepIn K (.ref Join) = true)
    (oha_Join : PySem.W.findIn K (.ref Join) "__class__" = some (some (.builtin "object.__class__")))
    (one_Join : PySem.W.findIn K (.ref Join) "__ne__" = some (some (.builtin "object.__ne__")))
    (omo_Join : PySem.W.mroIn K Join (.type "object") = some true)
    (oic_Join : PySem.W.isClsIn K Join = true)
    (oty_Join : PySem.W.typeIn K (.ref Join) = some (.type "type"))
    (ome_Join : PySem.W.subIn K (.ref Join) (.ref Join) = some true)
    (opg_Part : PySem.W.plainGet K Part Str.empty = true)
    (ohd_Part : PySem.W.hasDictIn K Part = true)
    (opo_Part : PySem.W.plainOver K Part = true)
    (osa_Part : PySem.W.findIn K (.ref Part) "__setattr__" = some (some (.builtin "object.__setattr__")))
    (oma_Part : PySem.W.makesIn K Part = true)
    (okp_Part : PySem.W.keepIn K (.ref Part) = true)
    (oha_Part : PySem.W.findIn K (.ref Part) "__class__" = some (some (.builtin "object.__class__")))
    (one_Part : PySem.W.findIn K (.ref Part) "__ne__" = some (some (.builtin "object.__ne__")))
    (omo_Part : PySem.W.mroIn K Part (.type "object") = some true)
    (oic_Part : PySem.W.isClsIn K Part = true)
    (oty_Part : PySem.W.typeIn K (.ref Part) = some (.type "type"))
    (ome_Part : PySem.W.subIn K (.ref Part) (.ref Part) = some true)
    (opg_Book : PySem.W.plainGet K Book Str.empty = true)
    (ohd_Book : PySem.W.hasDictIn K Book = true)
    (opo_Book : PySem.W.plainOver K Book = true)
    (osa_Book : PySem.W.findIn K (.ref Book) "__setattr__" = some (some (.builtin "object.__setattr__")))
    (oma_Book : PySem.W.makesIn K Book = true)
    (okp_Book : PySem.W.keepIn K (.ref Book) = true)
    (oha_Book : PySem.W.findIn K (.ref Book) "__class__" = some (some (.builtin "object.__class__")))
    (one_Book : PySem.W.findIn K (.ref Book) "__ne__" = some (some (.builtin "object.__ne__")))
    (omo_Book : PySem.W.mroIn K Book (.type "object") = some true)
    (oic_Book : PySem.W.isClsIn K Book = true)
    (oty_Book : PySem.W.typeIn K (.ref Book) = some (.type "type"))
    (ome_Book : PySem.W.subIn K (.ref Book) (.ref Book) = some true)
    (m_Step_init : PySem.W.findIn K (.ref Step) "__init__" = some (some (.ref f_Step_init)))
    (n_f_Step_init : PySem.W.isFn K (.ref f_Step_init) = true)
    (l31 : K.lookup f_Step_init = some ⟨oc31, od31, .func (PySem.W.fnOf "__init__" "Step.__init__" (defArgs s_Step_init) (defBody s_Step_init) (defScope s_Step_init) .none kV31 dc31 pm31 an31 cd31 ct31), sl31⟩)
    (c31 : PySem.W.codeIn K cd31 "Step.__init__" = true)
    (k31 : PySem.W.keepIn K (.ref f_Step_init) = true)
    (m_Step_str : PySem.W.findIn K (.ref Step) "__str__" = some (some (.ref f_Row_str)))
    (n_f_Row_str : PySem.W.isFn K (.ref f_Row_str) = true)
    (l32 : K.lookup f_Row_str = some ⟨oc32, od32, .func (PySem.W.fnOf "__str__" "Row.__str__" (defArgs s_Row_str) (defBody s_Row_str) (defScope s_Row_str) .none kV32 dc32 pm32 an32 cd32 ct32), sl32⟩)
    (c32 : PySem.W.codeIn K cd32 "Row.__str__" = true)
    (k32 : PySem.W.keepIn K (.ref f_Row_str) = true)
    (m_Step_eq : PySem.W.findIn K (.ref Step) "__eq__" = some (some (.ref f_Row_eq)))
    (n_f_Row_eq : PySem.W.isFn K (.ref f_Row_eq) = true)
    (l33 : K.lookup f_Row_eq = some ⟨oc33, od33, .func (PySem.W.fnOf "__eq__" "Row.__eq__" (defArgs s_Row_eq) (defBody s_Row_eq) (defScope s_Row_eq) .none kV33 dc33 pm33 an33 cd33 ct33), sl33⟩)
    (c33 : PySem.W.codeIn K cd33 "Row.__eq__" = true)
    (k33 : PySem.W.keepIn K (.ref f_Row_eq) = true)
    (m_Step_named : PySem.W.findIn K (.ref Step) "named" = some (some (.ref f_Row_named)))
    (n_f_Row_named : PySem.W.isFn K (.ref f_Row_named) = true)
    (l34 : K.lookup f_Row_named = some ⟨oc34, od34, .func (PySem.W.fnOf "named" "Row.named" (defArgs s_Row_named) (defBody s_Row_named) (defScope s_Row_named) .none kV34 dc34 pm34 an34 cd34 ct34), sl34⟩)
    (c34 : PySem.W.codeIn K cd34 "Row.named" = true)
    (k34 : PySem.W.keepIn K (.ref f_Row_named) = true)
    (m_Join_init : PySem.W.findIn K (.ref Join) "__init__" = some (some (.ref f_Join_init)))
    (n_f_Join_init : PySem.W.isFn K (.ref f_Join_init) = true)
    (l35 : K.lookup f_Join_init = some ⟨oc35, od35, .func (PySem.W.fnOf "__init__" "Join.__init__" (defArgs s_Join_init) (defBody s_Join_init) (defScope s_Join_init) .none kV35 dc35 pm35 an35 cd35 ct35), sl35⟩)
    (c35 : PySem.W.codeIn K cd35 "Join.__init__" = true)
    (k35 : PySem.W.keepIn K (.ref f_Join_init) = true)
    (m_Join_str : PySem.W.findIn K (.ref Join) "__str__" = some (some (.ref f_Row_str)))
    (m_Join_eq : PySem.W.findIn K (.ref Join) "__eq__" = some (some (.ref f_Row_eq)))
    (m_Join_named : PySem.W.findIn K (.ref Join) "named" = some (some (.ref f_Row_named)))
    (m_Part_init : PySem.W.findIn K (.ref Part) "__init__" = some (some (.ref f_Part_init)))
    (n_f_Part_init : PySem.W.isFn K (.ref f_Part_init) = true)
    (l36 : K.lookup f_Part_init = some ⟨oc36, od36, .func (PySem.W.fnOf "__init__" "Part.__init__" (defArgs s_Part_init) (defBody s_Part_init) (defScope s_Part_init) .none kV36 dc36 pm36 an36 cd36 ct36), sl36⟩)
    (c36 : PySem.W.codeIn K cd36 "Part.__init__" = true)
    (k36 : PySem.W.keepIn K (.ref f_Part_init) = true)
    (m_Part_str : PySem.W.findIn K (.ref Part) "__str__" = some (some (.ref f_Row_str)))
    (m_Part_eq : PySem.W.findIn K (.ref Part) "__eq__" = some (some (.ref f_Row_eq)))
    (m_Part_named : PySem.W.findIn K (.ref Part) "named" = some (some (.ref f_Row_named)))
    (m_Book_init : PySem.W.findIn K (.ref Book) "__init__" = some (some (.ref f_Book_init)))
    (n_f_Book_init : PySem.W.isFn K (.ref f_Book_init) = true)
    (l37 : K.lookup f_Book_init = some ⟨oc37, od37, .func (PySem.W.fnOf "__init__" "Book.__init__" (defArgs s_Book_init) (defBody s_Book_init) (defScope s_Book_init) .none kV37 dc37 pm37 an37 cd37 ct37), sl37⟩)
    (c37 : PySem.W.codeIn K cd37 "Book.__init__" = true)
    (k37 : PySem.W.keepIn K (.ref f_Book_init) = true)
    (m_Book_str : PySem.W.findIn K (.ref Book) "__str__" = some (some (.ref f_Book_str)))
    (n_f_Book_str : PySem.W.isFn K (.ref f_Book_str) = true)
    (l38 : K.lookup f_Book_str = some ⟨oc38, od38, .func (PySem.W.fnOf "__str__" "Book.__str__" (defArgs s_Book_str) (defBody s_Book_str) (defScope s_Book_str) .none kV38 dc38 pm38 an38 cd38 ct38), sl38⟩)
    (c38 : PySem.W.codeIn K cd38 "Book.__str__" = true)
    (k38 : PySem.W.keepIn K (.ref f_Book_str) = true)
    (m_Book_eq : PySem.W.findIn K (.ref Book) "__eq__" = some (some (.ref f_Book_eq)))
    (n_f_Book_eq : PySem.W.isFn K (.ref f_Book_eq) = true)
    (l39 : K.lookup f_Book_eq = some ⟨oc39, od39, .func (PySem.W.fnOf "__eq__" "Book.__eq__" (defArgs s_Book_eq) (defBody s_Book_eq) (defScope s_Book_eq) .none kV39 dc39 pm39 an39 cd39 ct39), sl39⟩)
    (c39 : PySem.W.codeIn K cd39 "Book.__eq__" = true)
    (k39 : PySem.W.keepIn K (.ref f_Book_eq) = true)
    (acm_Book_read : PySem.W.findCls K (.ref Book) (.type "type") "read" = some (.get (.builtin "classmethod.__get__") (.ref p_Book_read) .none (.ref Book)))
    (rcm_Book_readh : PySem.W.recIn K p_Book_read "classmethod" = some (.ref f_Book_read :: rcm_Book_read))
    (fcm_Book_read : PySem.W.fnIn K f_Book_read = true)
    (l40 : K.lookup f_Book_read = some ⟨oc40, od40, .func (PySem.W.fnOf "read" "Book.read" (defArgs s_Book_read) (defBody s_Book_read) (defScope s_Book_read) .none kV40 dc40 pm40 an40 cd40 ct40), sl40⟩)
    (c40 : PySem.W.codeIn K cd40 "Book.read" = true)
    (k40 : PySem.W.keepIn K (.ref f_Book_read) = true)
    (m_Book_step : PySem.W.findIn K (.ref Book) "step" = some (some (.ref f_Book_step)))
    (n_f_Book_step : PySem.W.isFn K (.ref f_Book_step) = true)
    (l41 : K.lookup f_Book_step = some ⟨oc41, od41, .func (PySem.W.fnOf "step" "Book.step" (defArgs s_Book_step) (defBody s_Book_step) (defScope s_Book_step) .none kV41 dc41 pm41 an41 cd41 ct41), sl41⟩)
    (c41 : PySem.W.codeIn K cd41 "Book.step" = true)
    (k41 : PySem.W.keepIn K (.ref f_Book_step) = true)
    (m_Book_joined : PySem.W.findIn K (.ref Book) "joined" = some (some (.ref f_Book_joined)))
    (n_f_Book_joined : PySem.W.isFn K (.ref f_Book_joined) = true)
    (l42 : K.lookup f_Book_joined = some ⟨oc42, od42, .func (PySem.W.fnOf "joined" "Book.joined" (defArgs s_Book_joined) (defBody s_Book_joined) (defScope s_Book_joined) .none kV42 dc42 pm42 an42 cd42 ct42), sl42⟩)
    (c42 : PySem.W.codeIn K cd42 "Book.joined" = true)
    (k42 : PySem.W.keepIn K (.ref f_Book_joined) = true)
    (m_Book_parted : PySem.W.findIn K (.ref Book) "parted" = some (some (.ref f_Book_parted)))
    (n_f_Book_parted : PySem.W.isFn K (.ref f_Book_parted) = true)
    (l43 : K.lookup f_Book_parted = some ⟨oc43, od43, .func (PySem.W.fnOf "parted" "Book.parted" (defArgs s_Book_parted) (defBody s_Book_parted) (defScope s_Book_parted) .none kV43 dc43 pm43 an43 cd43 ct43), sl43⟩)
    (c43 : PySem.W.codeIn K cd43 "Book.parted" = true)
    (k43 : PySem.W.keepIn K (.ref f_Book_parted) = true)
    (m_Book_without : PySem.W.findIn K (.ref Book) "without" = some (some (.ref f_Book_without)))
    (n_f_Book_without : PySem.W.isFn K (.ref f_Book_without) = true)
    (l44 : K.lookup f_Book_without = some ⟨oc44, od44, .func (PySem.W.fnOf "without" "Book.without" (defArgs s_Book_without) (defBody s_Book_without) (defScope s_Book_without) .none kV44 dc44 pm44 an44 cd44 ct44), sl44⟩)
    (c44 : PySem.W.codeIn K cd44 "Book.without" = true)
    (k44 : PySem.W.keepIn K (.ref f_Book_without) = true)
    (m_Book_asking : PySem.W.findIn K (.ref Book) "asking" = some (some (.ref f_Book_asking)))
    (n_f_Book_asking : PySem.W.isFn K (.ref f_Book_asking) = true)
    (l45 : K.lookup f_Book_asking = some ⟨oc45, od45, .func (PySem.W.fnOf "asking" "Book.asking" (defArgs s_Book_asking) (defBody s_Book_asking) (defScope s_Book_asking) .none kV45 dc45 pm45 an45 cd45 ct45), sl45⟩)
    (c45 : PySem.W.codeIn K cd45 "Book.asking" = true)
    (k45 : PySem.W.keepIn K (.ref f_Book_asking) = true)
    (m_Row_init : PySem.W.findIn K (.ref Row) "__init__" = some (some (.ref f_Row_init)))
    (n_f_Row_init : PySem.W.isFn K (.ref f_Row_init) = true)
    (l46 : K.lookup f_Row_init = some ⟨oc46, od46, .func (PySem.W.fnOf "__init__" "Row.__init__" (defArgs s_Row_init) (defBody s_Row_init) (defScope s_Row_init) .none kV46 dc46 pm46 an46 cd46 ct46), sl46⟩)
    (c46 : PySem.W.codeIn K cd46 "Row.__init__" = true)
    (k46 : PySem.W.keepIn K (.ref f_Row_init) = true)
    (acm_Row_read : PySem.W.findCls K (.ref Row) (.type "type") "read" = some (.get (.builtin "classmethod.__get__") (.ref p_Row_read) .none (.ref Row)))
    (rcm_Row_readh : PySem.W.recIn K p_Row_read "classmethod" = some (.ref f_Row_read :: rcm_Row_read))
    (fcm_Row_read : PySem.W.fnIn K f_Row_read = true)
    (l47 : K.lookup f_Row_read = some ⟨oc47, od47, .func (PySem.W.fnOf "read" "Row.read" (defArgs s_Row_read) (defBody s_Row_read) (defScope s_Row_read) .none kV47 dc47 pm47 an47 cd47 ct47), sl47⟩)
    (c47 : PySem.W.codeIn K cd47 "Row.read" = true)
    (k47 : PySem.W.keepIn K (.ref f_Row_read) = true)
    (g_ADDED : PySem.W.nsIn K mainGlobals "ADDED" = some (some (.ref ADDED)))
    (lDADDED : K.lookup ADDED = some oDADDED)
    (cDADDED : oDADDED = ⟨.type "dict", none, .dict eDADDED nDADDED, #[]⟩)
    (vDADDED : Ents [("-3", .int (-3)), ("-2", .int (-2)), ("-1", .int (-1)), ("0", .int 0), ("1", .int 1), ("2", .int 2), ("3", .int 3)] eDADDED.toList)
    (kDADDED : PySem.W.KeysLit w.params eDADDED.toList)
    (sDADDED : (ADDED == sysModules) = false)
    (g_KEYWORDS : PySem.W.nsIn K mainGlobals "KEYWORDS" = some (some (.ref KEYWORDS)))
    (lTKEYWORDS : K.lookup KEYWORDS = some oTKEYWORDS)
    (cTKEYWORDS : oTKEYWORDS.cls = .type "tuple")
    (dTKEYWORDS : oTKEYWORDS.data = .seq iTKEYWORDS nTKEYWORDS)
    (vTKEYWORDS : Vals [.str "any", .str "by", .str "one", .str "same", .str "to"] iTKEYWORDS.toList)
    (g_KINDS : PySem.W.nsIn K mainGlobals "KINDS" = some (some (.ref KINDS)))
    (lTKINDS : K.lookup KINDS = some oTKINDS)
    (cTKINDS : oTKINDS.cls = .type "tuple")
    (dTKINDS : oTKINDS.data = .seq iTKINDS nTKINDS)
    (vTKINDS : Vals [.str "yes", .str "no", .str "late yes", .str "late no", .str "word", .str "strike", .str "back", .str "cut"] iTKINDS.toList)
    (g_EDITS : PySem.W.nsIn K mainGlobals "EDITS" = some (some (.ref EDITS)))
    (lTEDITS : K.lookup EDITS = some oTEDITS)
    (cTEDITS : oTEDITS.cls = .type "tuple")
    (dTEDITS : oTEDITS.data = .seq iTEDITS nTEDITS)
    (vTEDITS : Vals [.str "back", .str "cut", .str "join", .str "part", .str "word"] iTEDITS.toList)
    (g_HEADS : PySem.W.nsIn K mainGlobals "HEADS" = some (some (.ref HEADS)))
    (lTHEADS : K.lookup HEADS = some oTHEADS)
    (cTHEADS : oTHEADS.cls = .type "tuple")
    (dTHEADS : oTHEADS.data = .seq iTHEADS nTHEADS)
    (vTHEADS : Vals [.str "marks", .str "counted", .str "keeps"] iTHEADS.toList)
    (na_Step_words : PySem.W.findIn K (.ref Step) "words" = some none)
    (na_Step_kind : PySem.W.findIn K (.ref Step) "kind" = some none)
    (na_Step_old : PySem.W.findIn K (.ref Step) "old" = some none)
    (na_Step_then : PySem.W.findIn K (.ref Step) "then" = some none)
    (na_Step_add : PySem.W.findIn K (.ref Step) "add" = some none)
    (na_Join_words : PySem.W.findIn K (.ref Join) "words" = some none)
    (na_Join_here : PySem.W.findIn K (.ref Join) "here" = some none)
    (na_Join_there : PySem.W.findIn K (.ref Join) "there" = some none)
    (na_Join_then : PySem.W.findIn K (.ref Join) "then" = some none)
    (na_Join_add : PySem.W.findIn K (.ref Join) "add" = some none)
    (na_Part_words : PySem.W.findIn K (.ref Part) "words" = some none)
    (na_Part_old : PySem.W.findIn K (.ref Part) "old" = some none)
    (na_Part_left : PySem.W.findIn K (.ref Part) "left" = some none)
    (na_Part_right : PySem.W.findIn K (.ref Part) "right" = some none)
    (na_Part_add : PySem.W.findIn K (.ref Part) "add" = some none)
    (na_Part_more : PySem.W.findIn K (.ref Part) "more" = some none)
    (na_Book_marks : PySem.W.findIn K (.ref Book) "marks" = some none)
    (na_Book_counted : PySem.W.findIn K (.ref Book) "counted" = some none)
    (na_Book_keeps : PySem.W.findIn K (.ref Book) "keeps" = some none)
    (na_Book_rows : PySem.W.findIn K (.ref Book) "rows" = some none)
    (na_Book_blank : PySem.W.findIn K (.ref Book) "blank" = some none)
    (na_Book_worth : PySem.W.findIn K (.ref Book) "worth" = some none)
    (na_Book_steps : PySem.W.findIn K (.ref Book) "steps" = some none)
    (na_Book_joins : PySem.W.findIn K (.ref Book) "joins" = some none)
    (na_Book_parts : PySem.W.findIn K (.ref Book) "parts" = some none)
    (h_kp_Row_init : PySem.W.keepIn K (.ref f_Row_init) = true)
    (h_kp_Step_init : PySem.W.keepIn K (.ref f_Step_init) = true)
    (h_kp_Join_init : PySem.W.keepIn K (.ref f_Join_init) = true)
    (h_kp_Part_init : PySem.W.keepIn K (.ref f_Part_init) = true)
    (h_kp_Row_str : PySem.W.keepIn K (.ref f_Row_str) = true)
    (h_kp_Row_eq : PySem.W.keepIn K (.ref f_Row_eq) = true)
    (h_kp_Row_named : PySem.W.keepIn K (.ref f_Row_named) = true)
    (h_kp_Book_init : PySem.W.keepIn K (.ref f_Book_init) = true)
    (h_kp_Book_str : PySem.W.keepIn K (.ref f_Book_str) = true)
    (h_kp_Book_eq : PySem.W.keepIn K (.ref f_Book_eq) = true)
    (h_kp_Book_step : PySem.W.keepIn K (.ref f_Book_step) = true)
    (h_kp_Book_joined : PySem.W.keepIn K (.ref f_Book_joined) = true)
    (h_kp_Book_parted : PySem.W.keepIn K (.ref f_Book_parted) = true)
    (h_kp_Book_without : PySem.W.keepIn K (.ref f_Book_without) = true)
    (h_kp_Book_asking : PySem.W.keepIn K (.ref f_Book_asking) = true)
    (h_off_Row : PySem.W.findCls K (.ref Row) (.type "type") "__init__" = some (.val (.ref f_Row_init)))
    (h_rd_Row : PySem.W.readsIn K Row (.type "type") = true)
    (h_ga_Row : PySem.W.specialIn K (.ref Row) "__getattribute__" = some (some (.builtin "type.__getattribute__")))
    (h_rd_Book : PySem.W.readsIn K Book (.type "type") = true)
    (h_ga_Book : PySem.W.specialIn K (.ref Book) "__getattribute__" = some (some (.builtin "type.__getattribute__")))
    (h_ogt : PySem.W.specialIn K (.builtin "object.__class__") "__get__" = some (some (.builtin "getset_descriptor.__get__")))
    (h_otk : PySem.W.takesIn K (.builtin "object.__class__") = some true)
    (h_su_Step_Row : PySem.W.subIn K (.ref Step) (.ref Row) = some true)
    (h_su_Join_Row : PySem.W.subIn K (.ref Join) (.ref Row) = some true)
    (h_su_Part_Row : PySem.W.subIn K (.ref Part) (.ref Row) = some true)
    (h_su_Book_Row : PySem.W.subIn K (.ref Book) (.ref Row) = some false)
    (h_sb_str_Row : PySem.W.subIn K (.type "str") (.ref Row) = some false)
    (h_sb_int_Row : PySem.W.subIn K (.type "int") (.ref Row) = some false)
    (h_sb_bool_Row : PySem.W.subIn K (.type "bool") (.ref Row) = some false)
    (h_sb_NoneType_Row : PySem.W.subIn K (.type "NoneType") (.ref Row) = some false)
    (h_sb_list_Row : PySem.W.subIn K (.type "list") (.ref Row) = some false)
    (h_sb_tuple_Row : PySem.W.subIn K (.type "tuple") (.ref Row) = some false)
    (h_su_Step_Book : PySem.W.subIn K (.ref Step) (.ref Book) = some false)
    (h_su_Join_Book : PySem.W.subIn K (.ref Join) (.ref Book) = some false)
    (h_su_Part_Book : PySem.W.subIn K (.ref Part) (.ref Book) = some false)
    (h_sb_str_Book : PySem.W.subIn K (.type "str") (.ref Book) = some false)
    (h_sb_int_Book : PySem.W.subIn K (.type "int") (.ref Book) = some false)
    (h_sb_bool_Book : PySem.W.subIn K (.type "bool") (.ref Book) = some false)
    (h_sb_NoneType_Book : PySem.W.subIn K (.type "NoneType") (.ref Book) = some false)
    (h_sb_list_Book : PySem.W.subIn K (.type "list") (.ref Book) = some false)
    (h_sb_tuple_Book : PySem.W.subIn K (.type "tuple") (.ref Book) = some false) :
    ∃ A : Ads, Tx A K mg ∧ TxW A K w := ⟨⟨f_is_integer, f_is_name, f_is_sequence, f_is_place, f_all_differ, f_split_words, f_is_mark_or, f_is_added, f_refuse_wrong_rows, f_row_of_words, f_row_with_text, f_rows_of, f_fitting, f_or_same, f_of_both, f_step_table, f_all_steps, f_join_table, f_part_table, f_are_marks, f_are_words_of, f_refuse_wrong_books, f_lines, f_can_stand, f_head, f_row, f_refuse_other_marks, f_asking_rows, f_law, f_law_number, Row, Step, Join, Part, Book, f_Step_init, f_Row_str, f_Row_eq, f_Row_named, f_Join_init, f_Part_init, f_Book_init, f_Book_str, f_Book_eq, p_Book_read, f_Book_read, f_Book_step, f_Book_joined, f_Book_parted, f_Book_without, f_Book_asking, f_Row_init, p_Row_read, f_Row_read, ADDED, KEYWORDS, KINDS, EDITS, HEADS⟩, {
    z_abs := PySem.W.mg_none_of X G z_abs,
    z_all := PySem.W.mg_none_of X G z_all,
    z_bool := PySem.W.mg_none_of X G z_bool,
    z_enumerate := PySem.W.mg_none_of X G z_enumerate,
    z_int := PySem.W.mg_none_of X G z_int,
    z_isinstance := PySem.W.mg_none_of X G z_isinstance,
    z_len := PySem.W.mg_none_of X G z_len,
    z_list := PySem.W.mg_none_of X G z_list,
    z_range := PySem.W.mg_none_of X G z_range,
    z_reversed := PySem.W.mg_none_of X G z_reversed,
    z_set := PySem.W.mg_none_of X G z_set,
    z_sorted := PySem.W.mg_none_of X G z_sorted,
    z_str := PySem.W.mg_none_of X G z_str,
    z_tuple := PySem.W.mg_none_of X G z_tuple,
    d_is_integer := ⟨PySem.W.mg_of X G g_is_integer, _, fun_mk (st := s_is_integer) l1 c1 k1⟩,
    d_is_name := ⟨PySem.W.mg_of X G g_is_name, _, fun_mk (st := s_is_name) l2 c2 k2⟩,
    d_is_sequence := ⟨PySem.W.mg_of X G g_is_sequence, _, fun_mk (st := s_is_sequence) l3 c3 k3⟩,
    d_is_place := ⟨PySem.W.mg_of X G g_is_place, _, fun_mk (st := s_is_place) l4 c4 k4⟩,
    d_all_differ := ⟨PySem.W.mg_of X G g_all_differ, _, fun_mk (st := s_all_differ) l5 c5 k5⟩,
    d_split_words := ⟨PySem.W.mg_of X G g_split_words, _, fun_mk (st := s_split_words) l6 c6 k6⟩,
    d_is_mark_or := ⟨PySem.W.mg_of X G g_is_mark_or, _, fun_mk (st := s_is_mark_or) l7 c7 k7⟩,
    d_is_added := ⟨PySem.W.mg_of X G g_is_added, _, fun_mk (st := s_is_added) l8 c8 k8⟩,
    d_refuse_wrong_rows := ⟨PySem.W.mg_of X G g_refuse_wrong_rows, _, fun_mk (st := s_refuse_wrong_rows) l9 c9 k9⟩,
    d_row_of_words := ⟨PySem.W.mg_of X G g_row_of_words, _, fun_mk (st := s_row_of_words) l10 c10 k10⟩,
    d_row_with_text := ⟨PySem.W.mg_of X G g_row_with_text, _, fun_mk (st := s_row_with_text) l11 c11 k11⟩,
    d_rows_of := ⟨PySem.W.mg_of X G g_rows_of, _, fun_mk (st := s_rows_of) l12 c12 k12⟩,
    d_fitting := ⟨PySem.W.mg_of X G g_fitting, _, fun_mk (st := s_fitting) l13 c13 k13⟩,
    d_or_same := ⟨PySem.W.mg_of X G g_or_same, _, fun_mk (st := s_or_same) l14 c14 k14⟩,
    d_of_both := ⟨PySem.W.mg_of X G g_of_both, _, fun_mk (st := s_of_both) l15 c15 k15⟩,
    d_step_table := ⟨PySem.W.mg_of X G g_step_table, _, fun_mk (st := s_step_table) l16 c16 k16⟩,
    d_all_steps := ⟨PySem.W.mg_of X G g_all_steps, _, fun_mk (st := s_all_steps) l17 c17 k17⟩,
    d_join_table := ⟨PySem.W.mg_of X G g_join_table, _, fun_mk (st := s_join_table) l18 c18 k18⟩,
    d_part_table := ⟨PySem.W.mg_of X G g_part_table, _, fun_mk (st := s_part_table) l19 c19 k19⟩,
    d_are_marks := ⟨PySem.W.mg_of X G g_are_marks, _, fun_mk (st := s_are_marks) l20 c20 k20⟩,
    d_are_words_of := ⟨PySem.W.mg_of X G g_are_words_of, _, fun_mk (st := s_are_words_of) l21 c21 k21⟩,
    d_refuse_wrong_books := ⟨PySem.W.mg_of X G g_refuse_wrong_books, _, fun_mk (st := s_refuse_wrong_books) l22 c22 k22⟩,
    d_lines := ⟨PySem.W.mg_of X G g_lines, _, fun_mk (st := s_lines) l23 c23 k23⟩,
    d_can_stand := ⟨PySem.W.mg_of X G g_can_stand, _, fun_mk (st := s_can_stand) l24 c24 k24⟩,
    d_head := ⟨PySem.W.mg_of X G g_head, _, fun_mk (st := s_head) l25 c25 k25⟩,
    d_row := ⟨PySem.W.mg_of X G g_row, _, fun_mk (st := s_row) l26 c26 k26⟩,
    d_refuse_other_marks := ⟨PySem.W.mg_of X G g_refuse_other_marks, _, fun_mk (st := s_refuse_other_marks) l27 c27 k27⟩,
    d_asking_rows := ⟨PySem.W.mg_of X G g_asking_rows, _, fun_mk (st := s_asking_rows) l28 c28 k28⟩,
    d_law := ⟨PySem.W.mg_of X G g_law, _, fun_mk (st := s_law) l29 c29 k29⟩,
    d_law_number := ⟨PySem.W.mg_of X G g_law_number, _, fun_mk (st := s_law_number) l30 c30 k30⟩,
    g_Row := PySem.W.mg_of X G g_Row,
    g_Step := PySem.W.mg_of X G g_Step,
    g_Join := PySem.W.mg_of X G g_Join,
    g_Part := PySem.W.mg_of X G g_Part,
    g_Book := PySem.W.mg_of X G g_Book,
    o_Row := ⟨opg_Row, ohd_Row, opo_Row, osa_Row, oma_Row, okp_Row, oha_Row, one_Row, omo_Row, oic_Row, oty_Row, ome_Row⟩,
    o_Step := ⟨opg_Step, ohd_Step, opo_Step, osa_Step, oma_Step, okp_Step, oha_Step, one_Step, omo_Step, oic_Step, oty_Step, ome_Step⟩,
    o_Join := ⟨opg_Join, ohd_Join, opo_Join, osa_Join, oma_Join, okp_Join, oha_Join, one_Join, omo_Join, oic_Join, oty_Join, ome_Join⟩,
    o_Part := ⟨opg_Part, ohd_Part, opo_Part, osa_Part, oma_Part, okp_Part, oha_Part, one_Part, omo_Part, oic_Part, oty_Part, ome_Part⟩,
    o_Book := ⟨opg_Book, ohd_Book, opo_Book, osa_Book, oma_Book, okp_Book, oha_Book, one_Book, omo_Book, oic_Book, oty_Book, ome_Book⟩,
    m_Step_init := m_Step_init,
    i_f_Step_init := n_f_Step_init,
    d_Step_init := ⟨_, fun_mk (st := s_Step_init) l31 c31 k31⟩,
    m_Step_str := m_Step_str,
    i_f_Row_str := n_f_Row_str,
    d_Row_str := ⟨_, fun_mk (st := s_Row_str) l32 c32 k32⟩,
    m_Step_eq := m_Step_eq,
    i_f_Row_eq := n_f_Row_eq,
    d_Row_eq := ⟨_, fun_mk (st := s_Row_eq) l33 c33 k33⟩,
    m_Step_named := m_Step_named,
    i_f_Row_named := n_f_Row_named,
    d_Row_named := ⟨_, fun_mk (st := s_Row_named) l34 c34 k34⟩,
    m_Join_init := m_Join_init,
    i_f_Join_init := n_f_Join_init,
    d_Join_init := ⟨_, fun_mk (st := s_Join_init) l35 c35 k35⟩,
    m_Join_str := m_Join_str,
    m_Join_eq := m_Join_eq,
    m_Join_named := m_Join_named,
    m_Part_init := m_Part_init,
    i_f_Part_init := n_f_Part_init,
    d_Part_init := ⟨_, fun_mk (st := s_Part_init) l36 c36 k36⟩,
    m_Part_str := m_Part_str,
    m_Part_eq := m_Part_eq,
    m_Part_named := m_Part_named,
    m_Book_init := m_Book_init,
    i_f_Book_init := n_f_Book_init,
    d_Book_init := ⟨_, fun_mk (st := s_Book_init) l37 c37 k37⟩,
    m_Book_str := m_Book_str,
    i_f_Book_str := n_f_Book_str,
    d_Book_str := ⟨_, fun_mk (st := s_Book_str) l38 c38 k38⟩,
    m_Book_eq := m_Book_eq,
    i_f_Book_eq := n_f_Book_eq,
    d_Book_eq := ⟨_, fun_mk (st := s_Book_eq) l39 c39 k39⟩,
    c_Book_read := ⟨acm_Book_read, ⟨_, rcm_Book_readh⟩, fcm_Book_read⟩,
    d_Book_read := ⟨_, fun_mk (st := s_Book_read) l40 c40 k40⟩,
    m_Book_step := m_Book_step,
    i_f_Book_step := n_f_Book_step,
    d_Book_step := ⟨_, fun_mk (st := s_Book_step) l41 c41 k41⟩,
    m_Book_joined := m_Book_joined,
    i_f_Book_joined := n_f_Book_joined,
    d_Book_joined := ⟨_, fun_mk (st := s_Book_joined) l42 c42 k42⟩,
    m_Book_parted := m_Book_parted,
    i_f_Book_parted := n_f_Book_parted,
    d_Book_parted := ⟨_, fun_mk (st := s_Book_parted) l43 c43 k43⟩,
    m_Book_without := m_Book_without,
    i_f_Book_without := n_f_Book_without,
    d_Book_without := ⟨_, fun_mk (st := s_Book_without) l44 c44 k44⟩,
    m_Book_asking := m_Book_asking,
    i_f_Book_asking := n_f_Book_asking,
    d_Book_asking := ⟨_, fun_mk (st := s_Book_asking) l45 c45 k45⟩,
    m_Row_init := m_Row_init,
    i_f_Row_init := n_f_Row_init,
    d_Row_init := ⟨_, fun_mk (st := s_Row_init) l46 c46 k46⟩,
    c_Row_read := ⟨acm_Row_read, ⟨_, rcm_Row_readh⟩, fcm_Row_read⟩,
    d_Row_read := ⟨_, fun_mk (st := s_Row_read) l47 c47 k47⟩,
    g_ADDED := PySem.W.mg_of X G g_ADDED,
    g_KEYWORDS := PySem.W.mg_of X G g_KEYWORDS,
    t_KEYWORDS := fun H => .inr ⟨oTKEYWORDS, iTKEYWORDS, nTKEYWORDS, lTKEYWORDS, cTKEYWORDS, dTKEYWORDS, by have e := vTKEYWORDS.length; rw [← Array.length_toList, ← e]; exact (by decide : 5 ≤ 1000) |> small, vTKEYWORDS⟩,
    g_KINDS := PySem.W.mg_of X G g_KINDS,
    t_KINDS := fun H => .inr ⟨oTKINDS, iTKINDS, nTKINDS, lTKINDS, cTKINDS, dTKINDS, by have e := vTKINDS.length; rw [← Array.length_toList, ← e]; exact (by decide : 8 ≤ 1000) |> small, vTKINDS⟩,
    g_EDITS := PySem.W.mg_of X G g_EDITS,
    t_EDITS := fun H => .inr ⟨oTEDITS, iTEDITS, nTEDITS, lTEDITS, cTEDITS, dTEDITS, by have e := vTEDITS.length; rw [← Array.length_toList, ← e]; exact (by decide : 5 ≤ 1000) |> small, vTEDITS⟩,
    g_HEADS := PySem.W.mg_of X G g_HEADS,
    t_HEADS := fun H => .inr ⟨oTHEADS, iTHEADS, nTHEADS, lTHEADS, cTHEADS, dTHEADS, by have e := vTHEADS.length; rw [← Array.length_toList, ← e]; exact (by decide : 3 ≤ 1000) |> small, vTHEADS⟩,
    na_Step_words := na_Step_words,
    na_Step_kind := na_Step_kind,
    na_Step_old := na_Step_old,
    na_Step_then := na_Step_then,
    na_Step_add := na_Step_add,
    na_Join_words := na_Join_words,
    na_Join_here := na_Join_here,
    na_Join_there := na_Join_there,
    na_Join_then := na_Join_then,
    na_Join_add := na_Join_add,
    na_Part_words := na_Part_words,
    na_Part_old := na_Part_old,
    na_Part_left := na_Part_left,
    na_Part_right := na_Part_right,
    na_Part_add := na_Part_add,
    na_Part_more := na_Part_more,
    na_Book_marks := na_Book_marks,
    na_Book_counted := na_Book_counted,
    na_Book_keeps := na_Book_keeps,
    na_Book_rows := na_Book_rows,
    na_Book_blank := na_Book_blank,
    na_Book_worth := na_Book_worth,
    na_Book_steps := na_Book_steps,
    na_Book_joins := na_Book_joins,
    na_Book_parts := na_Book_parts,
    kp_Row_init := h_kp_Row_init,
    kp_Step_init := h_kp_Step_init,
    kp_Join_init := h_kp_Join_init,
    kp_Part_init := h_kp_Part_init,
    kp_Row_str := h_kp_Row_str,
    kp_Row_eq := h_kp_Row_eq,
    kp_Row_named := h_kp_Row_named,
    kp_Book_init := h_kp_Book_init,
    kp_Book_str := h_kp_Book_str,
    kp_Book_eq := h_kp_Book_eq,
    kp_Book_step := h_kp_Book_step,
    kp_Book_joined := h_kp_Book_joined,
    kp_Book_parted := h_kp_Book_parted,
    kp_Book_without := h_kp_Book_without,
    kp_Book_asking := h_kp_Book_asking,
    off_Row := h_off_Row,
    rd_Row := h_rd_Row,
    ga_Row := h_ga_Row,
    rd_Book := h_rd_Book,
    ga_Book := h_ga_Book,
    ogt := h_ogt,
    otk := h_otk,
    su_Step_Row := h_su_Step_Row,
    su_Join_Row := h_su_Join_Row,
    su_Part_Row := h_su_Part_Row,
    su_Book_Row := h_su_Book_Row,
    sb_str_Row := h_sb_str_Row,
    sb_int_Row := h_sb_int_Row,
    sb_bool_Row := h_sb_bool_Row,
    sb_NoneType_Row := h_sb_NoneType_Row,
    sb_list_Row := h_sb_list_Row,
    sb_tuple_Row := h_sb_tuple_Row,
    su_Step_Book := h_su_Step_Book,
    su_Join_Book := h_su_Join_Book,
    su_Part_Book := h_su_Part_Book,
    sb_str_Book := h_sb_str_Book,
    sb_int_Book := h_sb_int_Book,
    sb_bool_Book := h_sb_bool_Book,
    sb_NoneType_Book := h_sb_NoneType_Book,
    sb_list_Book := h_sb_list_Book,
    sb_tuple_Book := h_sb_tuple_Book }, {
    d_ADDED := ⟨⟨eDADDED, nDADDED, by rw [lDADDED, cDADDED], kDADDED, vDADDED⟩, sDADDED⟩ }⟩

section
variable {P : Program} {w : World} {A : Ads} {K : PySem.W.Frag} {mg : Str → Option Value}
theorem mk_own {C f : Addr} (c : OwnC K C) (m : PySem.W.findIn K (.ref C) "__init__" = some (some (.ref f))) (i : PySem.W.isFn K (.ref f) = true) : Mk K C f := ⟨c.ma, m, i, c.kp⟩
theorem whole (T : Tx A K mg) (TW : TxW A K w) : ∃ fd : FuncData, (∀ (s : Shared) (u : Value), BindsTo s fd ⟨[u], []⟩ [("_law_script", u)]) ∧ ∀ base : Heap, FnG P w K mg base CX0 10 A.f_law fd ["_law_script"] (spLaw K) := by
  obtain ⟨_, fd, F⟩ := T.d_law
  refine ⟨fd, fun s u => binds_whole (ps := ["_law_script"]) F (fun _ _ _ _ _ _ us h => by match us, h with | [u0], _ => rfl) s [u] rfl, fun base => ?_⟩
  have c_law_number : CalX P w K mg base CX0 1 "_law_number" (spNumber K) := cal_by (ps := ["_law_script", "_law_zturn"]) T.d_law_number (fun _ F => ok_number T F) (fun _ _ _ _ _ _ us h => by match us, h with | [u0, u1], _ => rfl)
  have c_is_integer : CalX P w K mg base CX0 1 "is_integer" (spM (vcx A K w (spNumber K)) 1 m_is_integer) := cal_by (ps := ["value"]) T.d_is_integer (fun _ F => ok_is_integer T TW  F) (fun _ _ _ _ _ _ us h => by match us, h with | [u0], _ => rfl)
  have c_is_name : CalX P w K mg base CX0 1 "is_name" (spM (vcx A K w (spNumber K)) 1 m_is_name) := cal_by (ps := ["value"]) T.d_is_name (fun _ F => ok_is_name T TW  F) (fun _ _ _ _ _ _ us h => by match us, h with | [u0], _ => rfl)
  have c_is_sequence : CalX P w K mg base CX0 1 "is_sequence" (spM (vcx A K w (spNumber K)) 1 m_is_sequence) := cal_by (ps := ["value"]) T.d_is_sequence (fun _ F => ok_is_sequence T TW  F) (fun _ _ _ _ _ _ us h => by match us, h with | [u0], _ => rfl)
  have c_is_place : CalX P w K mg base CX0 2 "is_place" (spM (vcx A K w (spNumber K)) 2 m_is_place) := cal_by (ps := ["at", "things"]) T.d_is_place (fun _ F => ok_is_place T TW c_is_integer F) (fun _ _ _ _ _ _ us h => by match us, h with | [u0, u1], _ => rfl)
  have c_all_differ : CalX P w K mg base CX0 1 "all_differ" (spM (vcx A K w (spNumber K)) 1 m_all_differ) := cal_by (ps := ["things"]) T.d_all_differ (fun _ F => ok_all_differ T TW  F) (fun _ _ _ _ _ _ us h => by match us, h with | [u0], _ => rfl)
  have c_split_words : CalX P w K mg base CX0 1 "split_words" (spM (vcx A K w (spNumber K)) 1 m_split_words) := cal_by (ps := ["text"]) T.d_split_words (fun _ F => ok_split_words T TW  F) (fun _ _ _ _ _ _ us h => by match us, h with | [u0], _ => rfl)
  have c_is_mark_or : CalX P w K mg base CX0 2 "_is_mark_or" (spM (vcx A K w (spNumber K)) 2 m_is_mark_or) := cal_by (ps := ["value", "words"]) T.d_is_mark_or (fun _ F => ok_is_mark_or T TW c_is_name F) (fun _ _ _ _ _ _ us h => by match us, h with | [u0, u1], _ => rfl)
  have c_is_added : CalX P w K mg base CX0 2 "_is_added" (spM (vcx A K w (spNumber K)) 1 m_is_added) := cal_by (ps := ["value"]) T.d_is_added (fun _ F => ok_is_added T TW c_is_integer F) (fun _ _ _ _ _ _ us h => by match us, h with | [u0], _ => rfl)
  have c_refuse_wrong_rows : CalX P w K mg base CX0 1 "refuse_wrong_rows" (spM (vcx A K w (spNumber K)) 1 m_refuse_wrong_rows) := cal_by (ps := ["judged"]) T.d_refuse_wrong_rows (fun _ F => ok_refuse_wrong_rows T TW  F) (fun _ _ _ _ _ _ us h => by match us, h with | [u0], _ => rfl)
  obtain ⟨fd_Row_init, G_Row_init⟩ := T.d_Row_init
  have F_Row_init : FnOk P w K mg base CX0 1 A.f_Row_init fd_Row_init ["self", "words"] (spI (vcx A K w (spNumber K)) 2 [7, 8, 9] m_Row_init) := ok_Row_init T TW  G_Row_init
  have b_Row_init : Binds K fd_Row_init ["self", "words"] [] := G_Row_init.binds (fun _ _ _ _ _ _ us h => by match us, h with | [u0, u1], _ => rfl)
  obtain ⟨fd_Step_init, G_Step_init⟩ := T.d_Step_init
  have F_Step_init : FnOk P w K mg base CX0 3 A.f_Step_init fd_Step_init ["self", "kind", "old", "then", "add"] (spI (vcx A K w (spNumber K)) 5 [7] m_Step_init) := ok_Step_init T TW c_is_added c_is_mark_or c_refuse_wrong_rows F_Row_init b_Row_init G_Step_init
  have b_Step_init : Binds K fd_Step_init ["self", "kind", "old", "then", "add"] [] := G_Step_init.binds (fun _ _ _ _ _ _ us h => by match us, h with | [u0, u1, u2, u3, u4], _ => rfl)
  have c_Step_init : MakX P w K mg base CX0 3 "Step" A.Step (spI (vcx A K w (spNumber K)) 5 [7] m_Step_init) := ⟨_, _, _, F_Step_init, T.g_Step, mk_own T.o_Step T.m_Step_init T.i_f_Step_init, b_Step_init⟩
  have x_k_Step_init_add_then_old_kind : KbX K fd_Step_init ["self", "kind", "old", "then", "add"] 1 ["add", "then", "old", "kind"] [3, 2, 1, 0] := kbx_of G_Step_init (fun _ _ _ _ _ _ us ws h1 h2 => by match us, ws, h1, h2 with | [u0], [w0, w1, w2, w3], _, _ => rfl)
  have k_Step_init_add_then_old_kind : MakKX P w K mg base CX0 3 "Step" A.Step (spI (vcx A K w (spNumber K)) 5 [7] m_Step_init) ["add", "then", "old", "kind"] [3, 2, 1, 0] := ⟨_, _, _, F_Step_init, T.g_Step, mk_own T.o_Step T.m_Step_init T.i_f_Step_init, x_k_Step_init_add_then_old_kind⟩
  obtain ⟨fd_Join_init, G_Join_init⟩ := T.d_Join_init
  have F_Join_init : FnOk P w K mg base CX0 3 A.f_Join_init fd_Join_init ["self", "here", "there", "then", "add"] (spI (vcx A K w (spNumber K)) 5 [8] m_Join_init) := ok_Join_init T TW c_is_added c_is_mark_or c_refuse_wrong_rows F_Row_init b_Row_init G_Join_init
  have b_Join_init : Binds K fd_Join_init ["self", "here", "there", "then", "add"] [] := G_Join_init.binds (fun _ _ _ _ _ _ us h => by match us, h with | [u0, u1, u2, u3, u4], _ => rfl)
  have c_Join_init : MakX P w K mg base CX0 3 "Join" A.Join (spI (vcx A K w (spNumber K)) 5 [8] m_Join_init) := ⟨_, _, _, F_Join_init, T.g_Join, mk_own T.o_Join T.m_Join_init T.i_f_Join_init, b_Join_init⟩
  have x_k_Join_init_then_add_there_here : KbX K fd_Join_init ["self", "here", "there", "then", "add"] 1 ["then", "add", "there", "here"] [3, 2, 0, 1] := kbx_of G_Join_init (fun _ _ _ _ _ _ us ws h1 h2 => by match us, ws, h1, h2 with | [u0], [w0, w1, w2, w3], _, _ => rfl)
  have k_Join_init_then_add_there_here : MakKX P w K mg base CX0 3 "Join" A.Join (spI (vcx A K w (spNumber K)) 5 [8] m_Join_init) ["then", "add", "there", "here"] [3, 2, 0, 1] := ⟨_, _, _, F_Join_init, T.g_Join, mk_own T.o_Join T.m_Join_init T.i_f_Join_init, x_k_Join_init_then_add_there_here⟩
  obtain ⟨fd_Part_init, G_Part_init⟩ := T.d_Part_init
  have F_Part_init : FnOk P w K mg base CX0 3 A.f_Part_init fd_Part_init ["self", "old", "left", "right", "add", "more"] (spI (vcx A K w (spNumber K)) 6 [9] m_Part_init) := ok_Part_init T TW c_is_added c_is_mark_or c_refuse_wrong_rows F_Row_init b_Row_init G_Part_init
  have b_Part_init : Binds K fd_Part_init ["self", "old", "left", "right", "add", "more"] [] := G_Part_init.binds (fun _ _ _ _ _ _ us h => by match us, h with | [u0, u1, u2, u3, u4, u5], _ => rfl)
  have c_Part_init : MakX P w K mg base CX0 3 "Part" A.Part (spI (vcx A K w (spNumber K)) 6 [9] m_Part_init) := ⟨_, _, _, F_Part_init, T.g_Part, mk_own T.o_Part T.m_Part_init T.i_f_Part_init, b_Part_init⟩
  have x_k_Part_init_more_add_right_left_old : KbX K fd_Part_init ["self", "old", "left", "right", "add", "more"] 1 ["more", "add", "right", "left", "old"] [4, 3, 2, 1, 0] := kbx_of G_Part_init (fun _ _ _ _ _ _ us ws h1 h2 => by match us, ws, h1, h2 with | [u0], [w0, w1, w2, w3, w4], _, _ => rfl)
  have k_Part_init_more_add_right_left_old : MakKX P w K mg base CX0 3 "Part" A.Part (spI (vcx A K w (spNumber K)) 6 [9] m_Part_init) ["more", "add", "right", "left", "old"] [4, 3, 2, 1, 0] := ⟨_, _, _, F_Part_init, T.g_Part, mk_own T.o_Part T.m_Part_init T.i_f_Part_init, x_k_Part_init_more_add_right_left_old⟩
  obtain ⟨fd_Row_str, G_Row_str⟩ := T.d_Row_str
  have F_Row_str : FnOk P w K mg base CX0 1 A.f_Row_str fd_Row_str ["self"] (spM (vcx A K w (spNumber K)) 1 m_Row_str) := ok_Row_str T TW  G_Row_str
  have b_Row_str : Binds K fd_Row_str ["self"] [] := G_Row_str.binds (fun _ _ _ _ _ _ us h => by match us, h with | [u0], _ => rfl)
  obtain ⟨fd_Row_eq, G_Row_eq⟩ := T.d_Row_eq
  have F_Row_eq : FnOk P w K mg base CX0 4 A.f_Row_eq fd_Row_eq ["self", "other"] (spM (vcx A K w (spNumber K)) 2 m_Row_eq) := ok_Row_eq T TW F_Row_str b_Row_str G_Row_eq
  have b_Row_eq : Binds K fd_Row_eq ["self", "other"] [] := G_Row_eq.binds (fun _ _ _ _ _ _ us h => by match us, h with | [u0, u1], _ => rfl)
  obtain ⟨fd_Row_named, G_Row_named⟩ := T.d_Row_named
  have F_Row_named : FnOk P w K mg base CX0 2 A.f_Row_named fd_Row_named ["self"] (spM (vcx A K w (spNumber K)) 1 m_Row_named) := ok_Row_named T TW c_is_name G_Row_named
  have b_Row_named : Binds K fd_Row_named ["self"] [] := G_Row_named.binds (fun _ _ _ _ _ _ us h => by match us, h with | [u0], _ => rfl)
  have c_row_of_words : CalX P w K mg base CX0 5 "_row_of_words" (spM (vcx A K w (spNumber K)) 1 m_row_of_words) := cal_by (ps := ["words"]) T.d_row_of_words (fun _ F => ok_row_of_words T TW c_Step_init c_Join_init c_Part_init F) (fun _ _ _ _ _ _ us h => by match us, h with | [u0], _ => rfl)
  have c_row_with_text : CalX P w K mg base CX0 6 "_row_with_text" (spM (vcx A K w (spNumber K)) 1 m_row_with_text) := cal_by (ps := ["text"]) T.d_row_with_text (fun _ F => ok_row_with_text T TW c_split_words c_row_of_words F_Row_str b_Row_str F) (fun _ _ _ _ _ _ us h => by match us, h with | [u0], _ => rfl)
  obtain ⟨fd_Row_read, G_Row_read⟩ := T.d_Row_read
  have F_Row_read : FnOk P w K mg base CX0 7 A.f_Row_read fd_Row_read ["cls", "text"] (spM (vcx A K w (spNumber K)) 2 m_Row_read) := ok_Row_read T TW c_row_with_text G_Row_read
  have b_Row_read : Binds K fd_Row_read ["cls", "text"] [] := G_Row_read.binds (fun _ _ _ _ _ _ us h => by match us, h with | [u0, u1], _ => rfl)
  have x_k_Row_read_text : KbX K fd_Row_read ["cls", "text"] 1 ["text"] [0] := kbx_of G_Row_read (fun _ _ _ _ _ _ us ws h1 h2 => by match us, ws, h1, h2 with | [u0], [w0], _, _ => rfl)
  have k_Row_read_text := x_k_Row_read_text
  have c_rows_of : CalX P w K mg base CX0 1 "rows_of" (spM (vcx A K w (spNumber K)) 2 m_rows_of) := cal_by (ps := ["rows", "kind"]) T.d_rows_of (fun _ F => ok_rows_of T TW  F) (fun _ _ _ _ _ _ us h => by match us, h with | [u0, u1], _ => rfl)
  have c_fitting : CalX P w K mg base CX0 1 "_fitting" (spM (vcx A K w (spNumber K)) 2 m_fitting) := cal_by (ps := ["pattern", "marks"]) T.d_fitting (fun _ F => ok_fitting T TW  F) (fun _ _ _ _ _ _ us h => by match us, h with | [u0, u1], _ => rfl)
  have c_or_same : CalX P w K mg base CX0 1 "_or_same" (spM (vcx A K w (spNumber K)) 2 m_or_same) := cal_by (ps := ["then", "mark"]) T.d_or_same (fun _ F => ok_or_same T TW  F) (fun _ _ _ _ _ _ us h => by match us, h with | [u0, u1], _ => rfl)
  have c_of_both : CalX P w K mg base CX0 1 "_of_both" (spM (vcx A K w (spNumber K)) 3 m_of_both) := cal_by (ps := ["then", "here", "there"]) T.d_of_both (fun _ F => ok_of_both T TW  F) (fun _ _ _ _ _ _ us h => by match us, h with | [u0, u1, u2], _ => rfl)
  have c_step_table : CalX P w K mg base CX0 2 "step_table" (spM (vcx A K w (spNumber K)) 2 m_step_table) := cal_by (ps := ["marks", "rows"]) T.d_step_table (fun _ F => ok_step_table T TW c_fitting c_or_same F) (fun _ _ _ _ _ _ us h => by match us, h with | [u0, u1], _ => rfl)
  have c_all_steps : CalX P w K mg base CX0 3 "all_steps" (spM (vcx A K w (spNumber K)) 2 m_all_steps) := cal_by (ps := ["marks", "rows"]) T.d_all_steps (fun _ F => ok_all_steps T TW c_rows_of c_step_table F) (fun _ _ _ _ _ _ us h => by match us, h with | [u0, u1], _ => rfl)
  have c_join_table : CalX P w K mg base CX0 2 "join_table" (spM (vcx A K w (spNumber K)) 2 m_join_table) := cal_by (ps := ["marks", "rows"]) T.d_join_table (fun _ F => ok_join_table T TW c_fitting c_of_both F) (fun _ _ _ _ _ _ us h => by match us, h with | [u0, u1], _ => rfl)
  have c_part_table : CalX P w K mg base CX0 2 "part_table" (spM (vcx A K w (spNumber K)) 3 m_part_table) := cal_by (ps := ["marks", "blank", "rows"]) T.d_part_table (fun _ F => ok_part_table T TW c_fitting c_or_same F) (fun _ _ _ _ _ _ us h => by match us, h with | [u0, u1, u2], _ => rfl)
  have c_are_marks : CalX P w K mg base CX0 2 "_are_marks" (spM (vcx A K w (spNumber K)) 1 m_are_marks) := cal_by (ps := ["value"]) T.d_are_marks (fun _ F => ok_are_marks T TW c_is_sequence c_is_name c_all_differ F) (fun _ _ _ _ _ _ us h => by match us, h with | [u0], _ => rfl)
  have c_are_words_of : CalX P w K mg base CX0 2 "_are_words_of" (spM (vcx A K w (spNumber K)) 2 m_are_words_of) := cal_by (ps := ["value", "words"]) T.d_are_words_of (fun _ F => ok_are_words_of T TW c_is_sequence c_all_differ F) (fun _ _ _ _ _ _ us h => by match us, h with | [u0, u1], _ => rfl)
  have c_refuse_wrong_books : CalX P w K mg base CX0 3 "refuse_wrong_books" (spM (vcx A K w (spNumber K)) 4 m_refuse_wrong_books) := cal_by (ps := ["marks", "counted", "keeps", "rows"]) T.d_refuse_wrong_books (fun _ F => ok_refuse_wrong_books T TW c_are_marks c_are_words_of c_is_sequence F_Row_named b_Row_named F) (fun _ _ _ _ _ _ us h => by match us, h with | [u0, u1, u2, u3], _ => rfl)
  obtain ⟨fd_Book_init, G_Book_init⟩ := T.d_Book_init
  have F_Book_init : FnOk P w K mg base CX0 4 A.f_Book_init fd_Book_init ["self", "marks", "counted", "keeps", "rows"] (spI (vcx A K w (spNumber K)) 5 [10] m_Book_init) := ok_Book_init T TW c_refuse_wrong_books c_all_steps c_rows_of c_join_table c_part_table G_Book_init
  have b_Book_init : Binds K fd_Book_init ["self", "marks", "counted", "keeps", "rows"] [] := G_Book_init.binds (fun _ _ _ _ _ _ us h => by match us, h with | [u0, u1, u2, u3, u4], _ => rfl)
  have c_Book_init : MakX P w K mg base CX0 4 "Book" A.Book (spI (vcx A K w (spNumber K)) 5 [10] m_Book_init) := ⟨_, _, _, F_Book_init, T.g_Book, mk_own T.o_Book T.m_Book_init T.i_f_Book_init, b_Book_init⟩
  have x_k_Book_init_rows_keeps_counted_marks : KbX K fd_Book_init ["self", "marks", "counted", "keeps", "rows"] 1 ["rows", "keeps", "counted", "marks"] [3, 2, 1, 0] := kbx_of G_Book_init (fun _ _ _ _ _ _ us ws h1 h2 => by match us, ws, h1, h2 with | [u0], [w0, w1, w2, w3], _, _ => rfl)
  have k_Book_init_rows_keeps_counted_marks : MakKX P w K mg base CX0 4 "Book" A.Book (spI (vcx A K w (spNumber K)) 5 [10] m_Book_init) ["rows", "keeps", "counted", "marks"] [3, 2, 1, 0] := ⟨_, _, _, F_Book_init, T.g_Book, mk_own T.o_Book T.m_Book_init T.i_f_Book_init, x_k_Book_init_rows_keeps_counted_marks⟩
  have c_lines : CalX P w K mg base CX0 4 "_lines" (spM (vcx A K w (spNumber K)) 1 m_lines) := cal_by (ps := ["book"]) T.d_lines (fun _ F => ok_lines T TW F_Row_str b_Row_str F) (fun _ _ _ _ _ _ us h => by match us, h with | [u0], _ => rfl)
  obtain ⟨fd_Book_str, G_Book_str⟩ := T.d_Book_str
  have F_Book_str : FnOk P w K mg base CX0 5 A.f_Book_str fd_Book_str ["self"] (spM (vcx A K w (spNumber K)) 1 m_Book_str) := ok_Book_str T TW c_lines G_Book_str
  have b_Book_str : Binds K fd_Book_str ["self"] [] := G_Book_str.binds (fun _ _ _ _ _ _ us h => by match us, h with | [u0], _ => rfl)
  obtain ⟨fd_Book_eq, G_Book_eq⟩ := T.d_Book_eq
  have F_Book_eq : FnOk P w K mg base CX0 8 A.f_Book_eq fd_Book_eq ["self", "other"] (spM (vcx A K w (spNumber K)) 2 m_Book_eq) := ok_Book_eq T TW F_Book_str b_Book_str G_Book_eq
  have b_Book_eq : Binds K fd_Book_eq ["self", "other"] [] := G_Book_eq.binds (fun _ _ _ _ _ _ us h => by match us, h with | [u0, u1], _ => rfl)
  have c_can_stand : CalX P w K mg base CX0 2 "_can_stand" (spM (vcx A K w (spNumber K)) 2 m_can_stand) := cal_by (ps := ["at", "words"]) T.d_can_stand (fun _ F => ok_can_stand T TW c_is_name F) (fun _ _ _ _ _ _ us h => by match us, h with | [u0, u1], _ => rfl)
  have c_head : CalX P w K mg base CX0 3 "_head" (spM (vcx A K w (spNumber K)) 2 m_head) := cal_by (ps := ["at", "line"]) T.d_head (fun _ F => ok_head T TW c_can_stand F) (fun _ _ _ _ _ _ us h => by match us, h with | [u0, u1], _ => rfl)
  have c_row : CalX P w K mg base CX0 8 "_row" (spM (vcx A K w (spNumber K)) 2 m_row) := cal_by (ps := ["at", "line"]) T.d_row (fun _ F => ok_row T TW F_Row_read b_Row_read F) (fun _ _ _ _ _ _ us h => by match us, h with | [u0, u1], _ => rfl)
  obtain ⟨fd_Book_read, G_Book_read⟩ := T.d_Book_read
  have F_Book_read : FnOk P w K mg base CX0 9 A.f_Book_read fd_Book_read ["cls", "text"] (spM (vcx A K w (spNumber K)) 2 m_Book_read) := ok_Book_read T TW c_head c_row c_Book_init G_Book_read
  have b_Book_read : Binds K fd_Book_read ["cls", "text"] [] := G_Book_read.binds (fun _ _ _ _ _ _ us h => by match us, h with | [u0, u1], _ => rfl)
  have x_k_Book_read_text : KbX K fd_Book_read ["cls", "text"] 1 ["text"] [0] := kbx_of G_Book_read (fun _ _ _ _ _ _ us ws h1 h2 => by match us, ws, h1, h2 with | [u0], [w0], _, _ => rfl)
  have k_Book_read_text := x_k_Book_read_text
  have c_refuse_other_marks : CalX P w K mg base CX0 1 "_refuse_other_marks" (spM (vcx A K w (spNumber K)) 2 m_refuse_other_marks) := cal_by (ps := ["marks", "values"]) T.d_refuse_other_marks (fun _ F => ok_refuse_other_marks T TW  F) (fun _ _ _ _ _ _ us h => by match us, h with | [u0, u1], _ => rfl)
  obtain ⟨fd_Book_step, G_Book_step⟩ := T.d_Book_step
  have F_Book_step : FnOk P w K mg base CX0 2 A.f_Book_step fd_Book_step ["self", "kind", "mark"] (spM (vcx A K w (spNumber K)) 3 m_Book_step) := ok_Book_step T TW c_refuse_other_marks G_Book_step
  have b_Book_step : Binds K fd_Book_step ["self", "kind", "mark"] [] := G_Book_step.binds (fun _ _ _ _ _ _ us h => by match us, h with | [u0, u1, u2], _ => rfl)
  have x_k_Book_step_mark_kind : KbX K fd_Book_step ["self", "kind", "mark"] 1 ["mark", "kind"] [1, 0] := kbx_of G_Book_step (fun _ _ _ _ _ _ us ws h1 h2 => by match us, ws, h1, h2 with | [u0], [w0, w1], _, _ => rfl)
  have k_Book_step_mark_kind := x_k_Book_step_mark_kind
  obtain ⟨fd_Book_joined, G_Book_joined⟩ := T.d_Book_joined
  have F_Book_joined : FnOk P w K mg base CX0 2 A.f_Book_joined fd_Book_joined ["self", "here", "there"] (spM (vcx A K w (spNumber K)) 3 m_Book_joined) := ok_Book_joined T TW c_refuse_other_marks G_Book_joined
  have b_Book_joined : Binds K fd_Book_joined ["self", "here", "there"] [] := G_Book_joined.binds (fun _ _ _ _ _ _ us h => by match us, h with | [u0, u1, u2], _ => rfl)
  have x_k_Book_joined_there_here : KbX K fd_Book_joined ["self", "here", "there"] 1 ["there", "here"] [1, 0] := kbx_of G_Book_joined (fun _ _ _ _ _ _ us ws h1 h2 => by match us, ws, h1, h2 with | [u0], [w0, w1], _, _ => rfl)
  have k_Book_joined_there_here := x_k_Book_joined_there_here
  obtain ⟨fd_Book_parted, G_Book_parted⟩ := T.d_Book_parted
  have F_Book_parted : FnOk P w K mg base CX0 2 A.f_Book_parted fd_Book_parted ["self", "mark"] (spM (vcx A K w (spNumber K)) 2 m_Book_parted) := ok_Book_parted T TW c_refuse_other_marks G_Book_parted
  have b_Book_parted : Binds K fd_Book_parted ["self", "mark"] [] := G_Book_parted.binds (fun _ _ _ _ _ _ us h => by match us, h with | [u0, u1], _ => rfl)
  have x_k_Book_parted_mark : KbX K fd_Book_parted ["self", "mark"] 1 ["mark"] [0] := kbx_of G_Book_parted (fun _ _ _ _ _ _ us ws h1 h2 => by match us, ws, h1, h2 with | [u0], [w0], _, _ => rfl)
  have k_Book_parted_mark := x_k_Book_parted_mark
  obtain ⟨fd_Book_without, G_Book_without⟩ := T.d_Book_without
  have F_Book_without : FnOk P w K mg base CX0 6 A.f_Book_without fd_Book_without ["self", "at"] (spM (vcx A K w (spNumber K)) 2 m_Book_without) := ok_Book_without T TW c_is_place c_Book_init G_Book_without
  have b_Book_without : Binds K fd_Book_without ["self", "at"] [] := G_Book_without.binds (fun _ _ _ _ _ _ us h => by match us, h with | [u0, u1], _ => rfl)
  have x_k_Book_without_at : KbX K fd_Book_without ["self", "at"] 1 ["at"] [0] := kbx_of G_Book_without (fun _ _ _ _ _ _ us ws h1 h2 => by match us, ws, h1, h2 with | [u0], [w0], _, _ => rfl)
  have k_Book_without_at := x_k_Book_without_at
  have c_asking_rows : CalX P w K mg base CX0 5 "_asking_rows" (spM (vcx A K w (spNumber K)) 2 m_asking_rows) := cal_by (ps := ["book", "kind"]) T.d_asking_rows (fun _ F => ok_asking_rows T TW c_Join_init c_Part_init c_Step_init F) (fun _ _ _ _ _ _ us h => by match us, h with | [u0, u1], _ => rfl)
  obtain ⟨fd_Book_asking, G_Book_asking⟩ := T.d_Book_asking
  have F_Book_asking : FnOk P w K mg base CX0 6 A.f_Book_asking fd_Book_asking ["self", "kinds"] (spM (vcx A K w (spNumber K)) 2 m_Book_asking) := ok_Book_asking T TW c_asking_rows c_Book_init G_Book_asking
  have b_Book_asking : Binds K fd_Book_asking ["self", "kinds"] [] := G_Book_asking.binds (fun _ _ _ _ _ _ us h => by match us, h with | [u0, u1], _ => rfl)
  have x_k_Book_asking_kinds : KbX K fd_Book_asking ["self", "kinds"] 1 ["kinds"] [0] := kbx_of G_Book_asking (fun _ _ _ _ _ _ us ws h1 h2 => by match us, ws, h1, h2 with | [u0], [w0], _, _ => rfl)
  have k_Book_asking_kinds := x_k_Book_asking_kinds
  exact fin_law (ok_law T TW c_law_number c_Step_init F_Book_eq b_Book_eq F_Row_eq b_Row_eq c_Join_init c_Part_init F_Row_read b_Row_read F_Book_str b_Book_str F_Row_str b_Row_str c_Book_init F_Book_read b_Book_read F_Book_step b_Book_step F_Book_joined b_Book_joined F_Book_parted b_Book_parted F_Book_without b_Book_without F_Book_asking b_Book_asking k_Step_init_add_then_old_kind k_Join_init_then_add_there_here k_Part_init_more_add_right_left_old k_Row_read_text k_Book_init_rows_keeps_counted_marks k_Book_read_text k_Book_step_mark_kind k_Book_joined_there_here k_Book_parted_mark k_Book_without_at k_Book_asking_kinds F)
end
end Vi

open PySem PySem.W PyProof.Rows
theorem PySem.Challenge.cw_forkpolls_k11_arguments_by_names_holds : PySem.Challenge.rw_forkpolls_k11_arguments_by_names.Holds := by
  w_on; o_law; k_head; (case hw => w_witness2)
  k_fill
  refine Fk.walk_ofG (l := PySem.Challenge.rw_forkpolls_k11_arguments_by_names) (n := 63) (k := 10) (x := "_law_script") (CX := fun _ => L2.CX0) (sp := fun w => Vi.spLaw _) rfl (by decide) rfl ⟨rfl, by decide, by decide⟩ (fun w h Y => PySem.W.kIn_of Y) ?F (fun _ _ a ns hn _ hS => ⟨a, ns, rfl, hn, hS, fun _ => rfl⟩) (fun _ _ _ _ _ h => h)
  case F =>
    intro w mg fa h KX G hmg
    refine' Exists.elim (Vi.gather KX G w ?z_abs ?z_all ?z_bool ?z_enumerate ?z_int ?z_isinstance ?z_len ?z_list ?z_range ?z_reversed ?z_set ?z_sorted ?z_str ?z_tuple ?g_is_integer ?l1 ?c1 ?k1 ?g_is_name ?l2 ?c2 ?k2 ?g_is_sequence ?l3 ?c3 ?k3 ?g_is_place ?l4 ?c4 ?k4 ?g_all_differ ?l5 ?c5 ?k5 ?g_split_words ?l6 ?c6 ?k6 ?g_is_mark_or ?l7 ?c7 ?k7 ?g_is_added ?l8 ?c8 ?k8 ?g_refuse_wrong_rows ?l9 ?c9 ?k9 ?g_row_of_words ?l10 ?c10 ?k10 ?g_row_with_text ?l11 ?c11 ?k11 ?g_rows_of ?l12 ?c12 ?k12 ?g_fitting ?l13 ?c13 ?k13 ?g_or_same ?l14 ?c14 ?k14 ?g_of_both ?l15 ?c15 ?k15 ?g_step_table ?l16 ?c16 ?k16 ?g_all_steps ?l17 ?c17 ?k17 ?g_join_table ?l18 ?c18 ?k18 ?g_part_table ?l19 ?c19 ?k19 ?g_are_marks ?l20 ?c20 ?k20 ?g_are_words_of ?l21 ?c21 ?k21 ?g_refuse_wrong_books ?l22 ?c22 ?k22 ?g_lines ?l23 ?c23 ?k23 ?g_can_stand ?l24 ?c24 ?k24 ?g_head ?l25 ?c25 ?k25 ?g_row ?l26 ?c26 ?k26 ?g_refuse_other_marks ?l27 ?c27 ?k27 ?g_asking_rows ?l28 ?c28 ?k28 ?g_law ?l29 ?c29 ?k29 ?g_law_number ?l30 ?c30 ?k30 ?g_Row ?g_Step ?g_Join ?g_Part ?g_Book ?opg_Row ?ohd_Row ?opo_Row ?osa_Row ?oma_Row ?okp_Row ?oha_Row ?one_Row ?omo_Row ?oic_Row ?oty_Row ?ome_Row ?opg_Step ?ohd_Step ?opo_Step ?osa_Step ?oma_Step ?okp_Step ?oha_Step ?one_Step ?omo_Step ?oic_Step ?oty_Step ?ome_Step ?opg_Join ?ohd_Join ?opo_Join ?osa_Join ?oma_Join ?okp_Join ?oha_Join ?one_Join ?omo_Join ?oic_Join ?oty_Join ?ome_Join ?opg_Part ?ohd_Part ?opo_Part ?osa_Part ?oma_Part ?okp_Part ?oha_Part ?one_Part ?omo_Part ?oic_Part ?oty_Part ?ome_Part ?opg_Book ?ohd_Book ?opo_Book ?osa_Book ?oma_Book ?okp_Book ?oha_Book ?one_Book ?omo_Book ?oic_Book ?oty_Book ?ome_Book ?m_Step_init ?n_f_Step_init ?l31 ?c31 ?k31 ?m_Step_str ?n_f_Row_str ?l32 ?c32 ?k32 ?m_Step_eq ?n_f_Row_eq ?l33 ?c33 ?k33 ?m_Step_named ?n_f_Row_named ?l34 ?c34 ?k34 ?m_Join_init ?n_f_Join_init ?l35 ?c35 ?k35 ?m_Join_str ?m_Join_eq ?m_Join_named ?m_Part_init ?n_f_Part_init ?l36 ?c36 ?k36 ?m_Part_str ?m_Part_eq ?m_Part_named ?m_Book_init ?n_f_Book_init ?l37 ?c37 ?k37 ?m_Book_str ?n_f_Book_str ?l38 ?c38 ?k38 ?m_Book_eq ?n_f_Book_eq ?l39 ?c39 ?k39 ?acm_Book_read ?rcm_Book_readh ?fcm_Book_read ?l40 ?c40 ?k40 ?m_Book_step ?n_f_Book_step ?l41 ?c41 ?k41 ?m_Book_joined ?n_f_Book_joined ?l42 ?c42 ?k42 ?m_Book_parted ?n_f_Book_parted ?l43 ?c43 ?k43 ?m_Book_without ?n_f_Book_without ?l44 ?c44 ?k44 ?m_Book_asking ?n_f_Book_asking ?l45 ?c45 ?k45 ?m_Row_init ?n_f_Row_init ?l46 ?c46 ?k46 ?acm_Row_read ?rcm_Row_readh ?fcm_Row_read ?l47 ?c47 ?k47 ?g_ADDED ?lDADDED ?cDADDED ?vDADDED ?kDADDED ?sDADDED ?g_KEYWORDS ?lTKEYWORDS ?cTKEYWORDS ?dTKEYWORDS ?vTKEYWORDS ?g_KINDS ?lTKINDS ?cTKINDS ?dTKINDS ?vTKINDS ?g_EDITS ?lTEDITS ?cTEDITS ?dTEDITS ?vTEDITS ?g_HEADS ?lTHEADS ?cTHEADS ?dTHEADS ?vTHEADS ?na_Step_words ?na_Step_kind ?na_Step_old ?na_Step_then ?na_Step_add ?na_Join_words ?na_Join_here ?na_Join_there ?na_Join_then ?na_Join_add ?na_Part_words ?na_Part_old ?na_Part_left ?na_Part_right ?na_Part_add ?na_Part_more ?na_Book_marks ?na_Book_counted ?na_Book_keeps ?na_Book_rows ?na_Book_blank ?na_Book_worth ?na_Book_steps ?na_Book_joins ?na_Book_parts ?h_kp_Row_init ?h_kp_Step_init ?h_kp_Join_init ?h_kp_Part_init ?h_kp_Row_str ?h_kp_Row_eq ?h_kp_Row_named ?h_kp_Book_init ?h_kp_Book_str ?h_kp_Book_eq ?h_kp_Book_step ?h_kp_Book_joined ?h_kp_Book_parted ?h_kp_Book_without ?h_kp_Book_asking ?h_off_Row ?h_rd_Row ?h_ga_Row ?h_rd_Book ?h_ga_Book ?h_ogt ?h_otk ?h_su_Step_Row ?h_su_Join_Row ?h_su_Part_Row ?h_su_Book_Row ?h_sb_str_Row ?h_sb_int_Row ?h_sb_bool_Row ?h_sb_NoneType_Row ?h_sb_list_Row ?h_sb_tuple_Row ?h_su_Step_Book ?h_su_Join_Book ?h_su_Part_Book ?h_sb_str_Book ?h_sb_int_Book ?h_sb_bool_Book ?h_sb_NoneType_Book ?h_sb_list_Book ?h_sb_tuple_Book) ?use
    (case z_abs => k_is)
    (case z_all => k_is)
    (case z_bool => k_is)
    (case z_enumerate => k_is)
    (case z_int => k_is)
    (case z_isinstance => k_is)
    (case z_len => k_is)
    (case z_list => k_is)
    (case z_range => k_is)
    (case z_reversed => k_is)
    (case z_set => k_is)
    (case z_sorted => k_is)
    (case z_str => k_is)
    (case z_tuple => k_is)
    (case g_is_integer => k_is)
    (case l1 => k_is)
    (case c1 => k_is)
    (case k1 => k_is)
    (case g_is_name => k_is)
    (case l2 => k_is)
    (case c2 => k_is)
    (case k2 => k_is)
    (case g_is_sequence => k_is)
    (case l3 => k_is)
    (case c3 => k_is)
    (case k3 => k_is)
    (case g_is_place => k_is)
    (case l4 => k_is)
    (case c4 => k_is)
    (case k4 => k_is)
    (case g_all_differ => k_is)
    (case l5 => k_is)
    (case c5 => k_is)
    (case k5 => k_is)
    (case g_split_words => k_is)
    (case l6 => k_is)
    (case c6 => k_is)
    (case k6 => k_is)
    (case g_is_mark_or => k_is)
    (case l7 => k_is)
    (case c7 => k_is)
    (case k7 => k_is)
    (case g_is_added => k_is)
    (case l8 => k_is)
    (case c8 => k_is)
    (case k8 => k_is)
    (case g_refuse_wrong_rows => k_is)
    (case l9 => k_is)
    (case c9 => k_is)
    (case k9 => k_is)
    (case g_row_of_words => k_is)
    (case l10 => k_is)
    (case c10 => k_is)
    (case k10 => k_is)
    (case g_row_with_text => k_is)
    (case l11 => k_is)
    (case c11 => k_is)
    (case k11 => k_is)
    (case g_rows_of => k_is)
    (case l12 => k_is)
    (case c12 => k_is)
    (case k12 => k_is)
    (case g_fitting => k_is)
    (case l13 => k_is)
    (case c13 => k_is)
    (case k13 => k_is)
    (case g_or_same => k_is)
    (case l14 => k_is)
    (case c14 => k_is)
    (case k14 => k_is)
    (case g_of_both => k_is)
    (case l15 => k_is)
    (case c15 => k_is)
    (case k15 => k_is)
    (case g_step_table => k_is)
    (case l16 => k_is)
    (case c16 => k_is)
    (case k16 => k_is)
    (case g_all_steps => k_is)
    (case l17 => k_is)
    (case c17 => k_is)
    (case k17 => k_is)
    (case g_join_table => k_is)
    (case l18 => k_is)
    (case c18 => k_is)
    (case k18 => k_is)
    (case g_part_table => k_is)
    (case l19 => k_is)
    (case c19 => k_is)
    (case k19 => k_is)
    (case g_are_marks => k_is)
    (case l20 => k_is)
    (case c20 => k_is)
    (case k20 => k_is)
    (case g_are_words_of => k_is)
    (case l21 => k_is)
    (case c21 => k_is)
    (case k21 => k_is)
    (case g_refuse_wrong_books => k_is)
    (case l22 => k_is)
    (case c22 => k_is)
    (case k22 => k_is)
    (case g_lines => k_is)
    (case l23 => k_is)
    (case c23 => k_is)
    (case k23 => k_is)
    (case g_can_stand => k_is)
    (case l24 => k_is)
    (case c24 => k_is)
    (case k24 => k_is)
    (case g_head => k_is)
    (case l25 => k_is)
    (case c25 => k_is)
    (case k25 => k_is)
    (case g_row => k_is)
    (case l26 => k_is)
    (case c26 => k_is)
    (case k26 => k_is)
    (case g_refuse_other_marks => k_is)
    (case l27 => k_is)
    (case c27 => k_is)
    (case k27 => k_is)
    (case g_asking_rows => k_is)
    (case l28 => k_is)
    (case c28 => k_is)
    (case k28 => k_is)
    (case g_law => k_is)
    (case l29 => k_is)
    (case c29 => k_is)
    (case k29 => k_is)
    (case g_law_number => k_is)
    (case l30 => k_is)
    (case c30 => k_is)
    (case k30 => k_is)
    (case g_Row => k_is)
    (case g_Step => k_is)
    (case g_Join => k_is)
    (case g_Part => k_is)
    (case g_Book => k_is)
    (case opg_Row => k_is)
    (case ohd_Row => k_is)
    (case opo_Row => k_is)
    (case osa_Row => k_is)
    (case oma_Row => k_is)
    (case okp_Row => k_is)
    (case oha_Row => k_is)
    (case one_Row => k_is)
    (case omo_Row => k_is)
    (case oic_Row => k_is)
    (case oty_Row => k_is)
    (case ome_Row => k_is)
    (case opg_Step => k_is)
    (case ohd_Step => k_is)
    (case opo_Step => k_is)
    (case osa_Step => k_is)
    (case oma_Step => k_is)
    (case okp_Step => k_is)
    (case oha_Step => k_is)
    (case one_Step => k_is)
    (case omo_Step => k_is)
    (case oic_Step => k_is)
    (case oty_Step => k_is)
    (case ome_Step => k_is)
    (case opg_Join => k_is)
    (case ohd_Join => k_is)
    (case opo_Join => k_is)
    (case osa_Join => k_is)
    (case oma_Join => k_is)
    (case okp_Join => k_is)
    (case oha_Join => k_is)
    (case one_Join => k_is)
    (case omo_Join => k_is)
    (case oic_Join => k_is)
    (case oty_Join => k_is)
    (case ome_Join => k_is)
    (case opg_Part => k_is)
    (case ohd_Part => k_is)
    (case opo_Part => k_is)
    (case osa_Part => k_is)
    (case oma_Part => k_is)
    (case okp_Part => k_is)
    (case oha_Part => k_is)
    (case one_Part => k_is)
    (case omo_Part => k_is)
    (case oic_Part => k_is)
    (case oty_Part => k_is)
    (case ome_Part => k_is)
    (case opg_Book => k_is)
    (case ohd_Book => k_is)
    (case opo_Book => k_is)
    (case osa_Book => k_is)
    (case oma_Book => k_is)
    (case okp_Book => k_is)
    (case oha_Book => k_is)
    (case one_Book => k_is)
    (case omo_Book => k_is)
    (case oic_Book => k_is)
    (case oty_Book => k_is)
    (case ome_Book => k_is)
    (case m_Step_init => k_is)
    (case n_f_Step_init => k_is)
    (case l31 => k_is)
    (case c31 => k_is)
    (case k31 => k_is)
    (case m_Step_str => k_is)
    (case n_f_Row_str => k_is)
    (case l32 => k_is)
    (case c32 => k_is)
    (case k32 => k_is)
    (case m_Step_eq => k_is)
    (case n_f_Row_eq => k_is)
    (case l33 => k_is)
    (case c33 => k_is)
    (case k33 => k_is)
    (case m_Step_named => k_is)
    (case n_f_Row_named => k_is)
    (case l34 => k_is)
    (case c34 => k_is)
    (case k34 => k_is)
    (case m_Join_init => k_is)
    (case n_f_Join_init => k_is)
    (case l35 => k_is)
    (case c35 => k_is)
    (case k35 => k_is)
    (case m_Join_str => k_is)
    (case m_Join_eq => k_is)
    (case m_Join_named => k_is)
    (case m_Part_init => k_is)
    (case n_f_Part_init => k_is)
    (case l36 => k_is)
    (case c36 => k_is)
    (case k36 => k_is)
    (case m_Part_str => k_is)
    (case m_Part_eq => k_is)
    (case m_Part_named => k_is)
    (case m_Book_init => k_is)
    (case n_f_Book_init => k_is)
    (case l37 => k_is)
    (case c37 => k_is)
    (case k37 => k_is)
    (case m_Book_str => k_is)
    (case n_f_Book_str => k_is)
    (case l38 => k_is)
    (case c38 => k_is)
    (case k38 => k_is)
    (case m_Book_eq => k_is)
    (case n_f_Book_eq => k_is)
    (case l39 => k_is)
    (case c39 => k_is)
    (case k39 => k_is)
    (case acm_Book_read => k_is)
    (case rcm_Book_readh => k_is)
    (case fcm_Book_read => k_is)
    (case l40 => k_is)
    (case c40 => k_is)
    (case k40 => k_is)
    (case m_Book_step => k_is)
    (case n_f_Book_step => k_is)
    (case l41 => k_is)
    (case c41 => k_is)
    (case k41 => k_is)
    (case m_Book_joined => k_is)
    (case n_f_Book_joined => k_is)
    (case l42 => k_is)
    (case c42 => k_is)
    (case k42 => k_is)
    (case m_Book_parted => k_is)
    (case n_f_Book_parted => k_is)
    (case l43 => k_is)
    (case c43 => k_is)
    (case k43 => k_is)
    (case m_Book_without => k_is)
    (case n_f_Book_without => k_is)
    (case l44 => k_is)
    (case c44 => k_is)
    (case k44 => k_is)
    (case m_Book_asking => k_is)
    (case n_f_Book_asking => k_is)
    (case l45 => k_is)
    (case c45 => k_is)
    (case k45 => k_is)
    (case m_Row_init => k_is)
    (case n_f_Row_init => k_is)
    (case l46 => k_is)
    (case c46 => k_is)
    (case k46 => k_is)
    (case acm_Row_read => k_is)
    (case rcm_Row_readh => k_is)
    (case fcm_Row_read => k_is)
    (case l47 => k_is)
    (case c47 => k_is)
    (case k47 => k_is)
    (case g_ADDED => k_is)
    (case lDADDED => k_is)
    (case cDADDED => rfl)
    (case vDADDED => exact .cons ⟨_, rfl⟩ ⟨_, rfl⟩ (.cons ⟨_, rfl⟩ ⟨_, rfl⟩ (.cons ⟨_, rfl⟩ ⟨_, rfl⟩ (.cons ⟨_, rfl⟩ ⟨_, rfl⟩ (.cons ⟨_, rfl⟩ ⟨_, rfl⟩ (.cons ⟨_, rfl⟩ ⟨_, rfl⟩ (.cons ⟨_, rfl⟩ ⟨_, rfl⟩ (.nil))))))))
    (case kDADDED => exact ⟨⟨_, _, rfl, rfl⟩, ⟨⟨_, _, rfl, rfl⟩, ⟨⟨_, _, rfl, rfl⟩, ⟨⟨_, _, rfl, rfl⟩, ⟨⟨_, _, rfl, rfl⟩, ⟨⟨_, _, rfl, rfl⟩, ⟨⟨_, _, rfl, rfl⟩, trivial⟩⟩⟩⟩⟩⟩⟩)
    (case sDADDED => rfl)
    (case g_KEYWORDS => k_is)
    (case lTKEYWORDS => k_is)
    (case cTKEYWORDS => rfl)
    (case dTKEYWORDS => rfl)
    (case vTKEYWORDS => exact .cons ⟨_, rfl⟩ (.cons ⟨_, rfl⟩ (.cons ⟨_, rfl⟩ (.cons ⟨_, rfl⟩ (.cons ⟨_, rfl⟩ (.nil))))))
    (case g_KINDS => k_is)
    (case lTKINDS => k_is)
    (case cTKINDS => rfl)
    (case dTKINDS => rfl)
    (case vTKINDS => exact .cons ⟨_, rfl⟩ (.cons ⟨_, rfl⟩ (.cons ⟨_, rfl⟩ (.cons ⟨_, rfl⟩ (.cons ⟨_, rfl⟩ (.cons ⟨_, rfl⟩ (.cons ⟨_, rfl⟩ (.cons ⟨_, rfl⟩ (.nil)))))))))
    (case g_EDITS => k_is)
    (case lTEDITS => k_is)
    (case cTEDITS => rfl)
    (case dTEDITS => rfl)
    (case vTEDITS => exact .cons ⟨_, rfl⟩ (.cons ⟨_, rfl⟩ (.cons ⟨_, rfl⟩ (.cons ⟨_, rfl⟩ (.cons ⟨_, rfl⟩ (.nil))))))
    (case g_HEADS => k_is)
    (case lTHEADS => k_is)
    (case cTHEADS => rfl)
    (case dTHEADS => rfl)
    (case vTHEADS => exact .cons ⟨_, rfl⟩ (.cons ⟨_, rfl⟩ (.cons ⟨_, rfl⟩ (.nil))))
    (case na_Step_words => k_is)
    (case na_Step_kind => k_is)
    (case na_Step_old => k_is)
    (case na_Step_then => k_is)
    (case na_Step_add => k_is)
    (case na_Join_words => k_is)
    (case na_Join_here => k_is)
    (case na_Join_there => k_is)
    (case na_Join_then => k_is)
    (case na_Join_add => k_is)
    (case na_Part_words => k_is)
    (case na_Part_old => k_is)
    (case na_Part_left => k_is)
    (case na_Part_right => k_is)
    (case na_Part_add => k_is)
    (case na_Part_more => k_is)
    (case na_Book_marks => k_is)
    (case na_Book_counted => k_is)
    (case na_Book_keeps => k_is)
    (case na_Book_rows => k_is)
    (case na_Book_blank => k_is)
    (case na_Book_worth => k_is)
    (case na_Book_steps => k_is)
    (case na_Book_joins => k_is)
    (case na_Book_parts => k_is)
    (case h_kp_Row_init => k_is)
    (case h_kp_Step_init => k_is)
    (case h_kp_Join_init => k_is)
    (case h_kp_Part_init => k_is)
    (case h_kp_Row_str => k_is)
    (case h_kp_Row_eq => k_is)
    (case h_kp_Row_named => k_is)
    (case h_kp_Book_init => k_is)
    (case h_kp_Book_str => k_is)
    (case h_kp_Book_eq => k_is)
    (case h_kp_Book_step => k_is)
    (case h_kp_Book_joined => k_is)
    (case h_kp_Book_parted => k_is)
    (case h_kp_Book_without => k_is)
    (case h_kp_Book_asking => k_is)
    (case h_off_Row => k_is)
    (case h_rd_Row => k_is)
    (case h_ga_Row => k_is)
    (case h_rd_Book => k_is)
    (case h_ga_Book => k_is)
    (case h_ogt => k_is)
    (case h_otk => k_is)
    (case h_su_Step_Row => k_is)
    (case h_su_Join_Row => k_is)
    (case h_su_Part_Row => k_is)
    (case h_su_Book_Row => k_is)
    (case h_sb_str_Row => k_is)
    (case h_sb_int_Row => k_is)
    (case h_sb_bool_Row => k_is)
    (case h_sb_NoneType_Row => k_is)
    (case h_sb_list_Row => k_is)
    (case h_sb_tuple_Row => k_is)
    (case h_su_Step_Book => k_is)
    (case h_su_Join_Book => k_is)
    (case h_su_Part_Book => k_is)
    (case h_sb_str_Book => k_is)
    (case h_sb_int_Book => k_is)
    (case h_sb_bool_Book => k_is)
    (case h_sb_NoneType_Book => k_is)
    (case h_sb_list_Book => k_is)
    (case h_sb_tuple_Book => k_is)
    intro A hT
    obtain ⟨T, TW⟩ := hT
    obtain ⟨fd, hb, hF⟩ := Vi.whole (P := PySem.Challenge.rw_forkpolls_k11_arguments_by_names.prog) (w := w) T TW
    have e : fa = A.f_law := by
      have e1 := hmg.symm.trans T.d_law.1
      exact Value.ref.inj (Option.some.inj e1)
    subst e
    exact ⟨fd, hb, fun base _ _ => hF base⟩

