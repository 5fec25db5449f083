import PyProof.Rows.All
import Wide.All
import OpenK.AllK
import Wide.FinOn
import KE.KCallOwn
import KE.DatumIndex
import HandS.ForMost
import HandS.Exc
import HandS.TryOnly
import HandS.ExcOwn
import HandS.WordsExc
import HandS.More
import HandS.ClsMeth
import HandS.OwnEq
import HandS.IsInst
import HandS.RaiseMore
import HandS.Style
import HandS.Small
import HandS.Deep
import HandS.Defaults
import HandS.MakeKwOnly
import HandS.Walk
import HandS.TupAny
import HandS.SetFor
import HandS.Zip
import PySem.Challenge.RW_forkpolls_k02_rows_made
set_option Elab.async false
set_option linter.all false
set_option maxRecDepth 100000
set_option maxHeartbeats 4000000
/-! Forkpolls: rules that the hand layer has not: a def read off its class, own == and != with any answer, str of an instance, repr of data. -/
namespace Fk
open PySem PySem.Spec PyProof.Rows L2

/-! ### C.m(..), m a def of the class (or of a base) -/
def tOff (C : Addr) (sp : Sp) (E : XK) (ta : TE) (t : TA) : TE := fun σ H Q => ta σ H fun x H1 => x = .ref C ∧ t σ H1 fun vs H2 => sp vs H2 Q E
section
variable {X : Cx} {CX : CXT} {k : Nat} {C f : Addr} {mc : Value} {fd : FuncData} {ps : List Str} {sp : Sp} {E : XK} {o e : Expr} {es : List Expr} {m : Str} {pos apos : Pos} {ta : TE} {t : TA} {pl : Sem Bool}
theorem pe_off (he : PE X o ta) (r : ClX.CRead X.K C mc) (c : ClX.CVal X.K C mc m (.ref f) (.ref f)) (F : FnOk X.prog X.w X.K X.mg X.base CX k f fd ps sp) (hr : Room k X.A) (hk : PySem.W.keepIn X.K (.ref f) = true) (hb : Binds X.K fd ps []) (hx : Passes CX X E) (ha : PA X (e :: es) t)
    (hst : starEach (e :: es) X.env = (false, eval e X.env) :: starEach es X.env := by rfl) (hpl : (backTo pos (starEach es X.env)).any (·.1) = false := by rfl)
    (ht : eval (.Call (.Attribute o m apos) (e :: es) [] pos) X.env = (do
      let u ← eval o X.env
      standAt apos.atName
      let (g, front) ← holding [u] (getMethod u m pl)
      callWith pos g front (backTo pos (starEach (e :: es) X.env)) (backToKw pos (keywordEach [] X.env))) := by rfl) :
    PE X (.Call (.Attribute o m apos) (e :: es) [] pos) (tOff C sp E ta t) := by
  refine ⟨fun pins s σ H Q I q0 => ?_⟩
  refine PySem.W.methodCall_KW (pl := pl) (thn (he.run pins s σ H _ I q0) fun u s1 ⟨x, H1, I1, rx, ex, q⟩ => ?_) ht
  subst ex; cases rx
  refine PySem.W.method_cls I1.kIn r.ga (ClX.getcval_ok I1 r c fun s2 I2 => ?_)
  refine PySem.W.callWith_K (h₀ := X.base) I2.ok.mod.kin hk (thn (ha.run pos pins s2 σ H1 _ I2 q) fun us s3 ⟨vs, H2, I3, rv, q2⟩ => ⟨I3.kIn, ?_⟩) hst hpl
  exact run_fn F hr hb .nil hx I3 rv (by rw [List.append_nil]; exact q2)
end

/-! ### == and != by the text's own __eq__, any answer -/
/-- what the class at C says of comparing and showing its instances: f the own __eq__, g the own __str__ -/
structure EqC (K : PySem.W.Frag) (C f : Addr) : Prop where
  eq : PySem.W.findIn K (.ref C) "__eq__" = some (some (.ref f))
  ne : PySem.W.findIn K (.ref C) "__ne__" = some (some (.builtin "object.__ne__"))
  fn : PySem.W.isFn K (.ref f) = true
  ob : PySem.W.mroIn K C (.type "object") = some true
def rOwn (K : PySem.W.Frag) (C : Addr) (sp : Sp) (E : XK) (g : Bool → Bool) : R2 := fun x y H Q => ∃ (a dx : Addr) (fs : List (Str × V)) (t : Value), x = .ref a ∧ H a = some (.ins C dx fs) ∧ TyX K H y t ∧ PySem.W.notFirst K C t = true ∧
  sp [x, y] H (fun v H' => ∃ b : Bool, v = .bl b ∧ Q (.bl (g b)) H') E
section
variable {X : Cx} {CX : CXT} {k : Nat} {C f : Addr} {fd : FuncData} {ps : List Str} {sp : Sp} {E : XK}
theorem op_own_eq (T : EqC X.K C f) (F : FnOk X.prog X.w X.K X.mg X.base CX k f fd ps sp) (hr : Room k X.A) (hb : Binds X.K fd ps []) (hx : Passes CX X E) : OpR X (compareOp .Eq) (rOwn X.K C sp E fun b => b) := by
  intro pins s σ H x y v u Q I rx ry hq
  obtain ⟨a, dx, fs, t, rfl, ha, ty, hn, q⟩ := hq
  cases rx
  obtain ⟨mA, J, _⟩ := ins_get I.hok ha
  obtain ⟨od, J1, _⟩ := J.look
  obtain ⟨m, fr⟩ := I.fr
  obtain ⟨P, Z, p, _⟩ := kit_of I ry ty
  show wpAny (model X.prog X.w) X.A (richCompare .Eq (.ref a) u) (EP X pins σ Q) X.xe s
  refine PySem.W.cmp_K hr.units0 fr I.ok.mod.kin J1 (Z.ty _ _ I.kIn p) hn T.eq T.fn ?_
  refine thn (run_fn (vs := [.ref a, y]) F hr hb .nil hx I (.cons rfl (.cons ry .nil)) (by rw [List.append_nil]; exact q)) fun w' s' z => ?_
  obtain ⟨v', H', I', rv, b, rfl, q'⟩ := z
  cases rv
  exact ⟨.bl b, H', I', rfl, q'⟩
end
end Fk

namespace PySem.W
open PySem PySem.Spec PyProof.Rows
section
variable {prog : Program} {w : World} {A : Around} {E : Value → Shared → Prop} {s : Shared} {K : Frag} {x C f : Addr} {ox : Obj} {od : Option Obj} {b tb : Value}
theorem fk_slotNe : Slot "object" "__ne__" "object.__ne__" := F.cmp_object.ne
/-- object.__ne__ asks the own __eq__ -/
theorem fk_objNe (hu : A.units < cLine) (X : K.In s.heap) (I : InstAt s.heap x ox C od) (he : findIn K (.ref C) "__eq__" = some (some (.ref f))) (hf : isFn K (.ref f) = true) {Q : Fin → Shared → Prop}
    (h : wpAny (model prog w) A (call (.ref f) [.ref x, b]) (fun v s' => ∃ r, v = .bool r ∧ Q (.done (.ret (.bool (!r)))) s') E s) :
    wpAny (model prog w) A (Builtin.«object.__ne__» ⟨[.ref x, b], []⟩) Q E s := by
  unfold Builtin.«object.__ne__»
  repeat (first
    | with_reducible refine wpAny_cRoomFor hu ?_
    | (refine wpAny_bind (m := callSpecialIfBound? (.ref x) (Str.ofString "__eq__") [b]) (ifBound_K X I he hf (wpAny_mono h (fun v s' z => by
          obtain ⟨r, rfl, q⟩ := z
          repeat (first | exact q | exact wpAny_pure q | exact wpAny_truthy_bool q | (refine wpAny_bind (m := truthy (.bool _)) (wpAny_truthy_bool ?_)) | wp_step)) fun _ _ e => e)))
    | wp_step)
theorem fk_ne (hu : A.units + 1 < cLine) (X : K.In s.heap) (I : InstAt s.heap x ox C od) (hb : Looks (model prog w) s.heap (typeOf b) tb) (hn : notFirst K C tb = true)
    (hs : findIn K (.ref C) "__ne__" = some (some (.builtin "object.__ne__"))) (he : findIn K (.ref C) "__eq__" = some (some (.ref f))) (hf : isFn K (.ref f) = true) (ho : mroIn K C (.type "object") = some true) {Q : Value → Shared → Prop}
    (h : wpAny (model prog w) A.in1 (call (.ref f) [.ref x, b]) (fun v s' => ∃ r, v = .bool r ∧ Q (.bool (!r)) s') E s) :
    wpAny (model prog w) A (richCompare .NotEq (.ref x) b) Q E s := by
  have sub : Looks (model prog w) s.heap (isInstance (.ref x) (.type "object")) true := I.type.andThen (looks_mroIn X ho)
  have hc : wpAny (model prog w) A (call (.builtin "object.__ne__") [.ref x, b]) (fun v s' => ∃ r, v = .bool r ∧ Q v s') E s := by
    refine wpAny_call (codeAny_call_builtin fk_slotNe.plain F.cmpEntry_ne (check_slot F.cmpKind_ne F.cmpSplit_ne sub (F.cmpArgs_ne _ _) ?_))
    refine fk_objNe hu X I he hf (wpAny_mono h (fun v s' z => ?_) fun _ _ e => e)
    obtain ⟨r, rfl, q⟩ := z
    exact ⟨r, rfl, ⟨_, rfl, q⟩⟩
  have one : wpAny (model prog w) A (tryCompare (.ref x) "__ne__" b) (fun r s' => ∃ v, r = some v ∧ Q v s') E s := by
    unfold tryCompare
    refine wpAny_bind ?_
    simp only [callSpecialIfBound?, bindSpecialIfBound?]
    refine wpAny_holding (wpAny_bind (wpAny_bind (wpAny_bind (I.type.here ((looks_findIn X hs).here ?_)))))
    simp only [fk_slotNe.bind]
    refine wpAny_bind (wpAny_askSetting (wpAny_ite ?_))
    split
    · refine wpAny_bind (wpAny_pure (wpAny_pure (wpAny_bind (wpAny_mono hc (fun v s' z => ?_) fun _ _ e => e))))
      obtain ⟨r, rfl, q⟩ := z
      exact wpAny_pure (wpAny_pure ⟨_, rfl, q⟩)
    · refine wpAny_tryCatch (wpAny_bind (wpAny_pure (wpAny_pure (wpAny_bind (wpAny_mono hc (fun v s' z => ?_) fun _ _ e => e)))))
      obtain ⟨r, rfl, q⟩ := z
      exact wpAny_pure (wpAny_pure ⟨_, rfl, q⟩)
  unfold richCompare; simp only [oneThing_ref]; rw [cmpInfo_NotEq]
  refine wpAny_holding (wpAny_bind (wpAny_cRoomFor (Nat.lt_of_succ_lt hu) (wpAny_bind (I.type.here (wpAny_bind (hb.here ?_))))))
  have last : wpAny (model prog w) A (tryCompare (.ref x) "__ne__" b) (fun r s' => ∃ v, r = some v ∧ Q v s') E s := one
  split
  · rename_i q
    have e : subIn K tb (.ref C) = some false := (Bool.or_eq_true_iff.mp hn).elim (fun e => by rw [beq_iff_eq.mp e] at q; simp at q) fun e => beq_iff_eq.mp e
    refine wpAny_bind ((looks_subIn X e).here ?_); simp only [Bool.false_eq_true, if_false]
    refine wpAny_bind (wpAny_mono last (fun r s' z => ?_) fun _ _ e => e); obtain ⟨v, rfl, q'⟩ := z; exact wpAny_pure q'
  · refine wpAny_bind (wpAny_pure ?_); simp only [Bool.false_eq_true, if_false]
    refine wpAny_bind (wpAny_mono last (fun r s' z => ?_) fun _ _ e => e); obtain ⟨v, rfl, q'⟩ := z; exact wpAny_pure q'
end
end PySem.W

namespace Fk
open PySem PySem.Spec PyProof.Rows L2
section
variable {X : Cx} {CX : CXT} {k : Nat} {C f : Addr} {fd : FuncData} {ps : List Str} {sp : Sp} {E : XK}
theorem env0_at {P : Program} {w : World} {K : PySem.W.Frag} {mg : Str → Option Value} {base : Heap} {A B : Around} {outer : List Env} {s : Shared} {H : Hp} (e : Env0 P w K mg base A outer s H) (h : B.frames = A.frames) : Env0 P w K mg base B outer s H :=
  ⟨by rw [h]; exact e.frames, e.mod, e.bs, e.bsz, e.funs, e.frf, e.hok, e.bare⟩
/-- a def's call at an Around below the running one -/
theorem run_at {pins : List (Addr × Obj)} {σ : L2.St} {H : Hp} {s : Shared} {Q : VK} {us : List Value} {vs : List V} {A : Around} (F : FnOk X.prog X.w X.K X.mg X.base CX k f fd ps sp) (hr : Room k A) (hA : A.frames = X.A.frames) (hb : Binds X.K fd ps []) (hx : Passes CX X E)
    (I : Inv X pins σ H s) (r : Vals vs us) (h : sp vs H Q E) : wpAny (model X.prog X.w) A (call (.ref f) us) (EP X pins σ Q) X.xe s := by
  have hl : us.length = ps.length := by rw [← r.length]; exact F.len _ _ _ _ h
  have bb := hb s us I.kIn (by rw [List.append_nil]; exact hl)
  rw [List.append_nil] at bb
  refine wpAny_call (codeAny_mono (F.run A X.stack s H ⟨us, []⟩ us vs Q E hr (env0_at I.env0 hA) bb r h) fun z s' hq => ?_)
  cases z with
  | error e => exact hx pins σ H s e s' I hq
  | ok fl => cases fl <;> first | exact I.after hq | exact False.elim hq
theorem op_own_ne (T : EqC X.K C f) (F : FnOk X.prog X.w X.K X.mg X.base CX k f fd ps sp) (hr : Room (k + 1) X.A) (hb : Binds X.K fd ps []) (hx : Passes CX X E) : OpR X (compareOp .NotEq) (rOwn X.K C sp E fun b => !b) := by
  intro pins s σ H x y v u Q I rx ry hq
  obtain ⟨a, dx, fs, t, rfl, ha, ty, hn, q⟩ := hq
  cases rx
  obtain ⟨mA, J, _⟩ := ins_get I.hok ha
  obtain ⟨od, J1, _⟩ := J.look
  obtain ⟨P, Z, p, _⟩ := kit_of I ry ty
  show wpAny (model X.prog X.w) X.A (richCompare .NotEq (.ref a) u) (EP X pins σ Q) X.xe s
  have hu := hr.units
  refine PySem.W.fk_ne (by omega) I.kIn J1 (Z.ty _ _ I.kIn p) hn T.ne T.eq T.fn T.ob ?_
  refine thn (run_at (vs := [.ref a, y]) F hr.in1 rfl hb hx I (.cons rfl (.cons ry .nil)) q) fun w' s' z => ?_
  obtain ⟨v', H', I', rv, b, rfl, q'⟩ := z
  cases rv
  exact ⟨b, rfl, .bl (!b), H', I', rfl, q'⟩
/-- str(o), o an instance with an own __str__ -/
structure StrC (K : PySem.W.Frag) (C f : Addr) : Prop where
  st : PySem.W.findIn K (.ref C) "__str__" = some (some (.ref f))
  fn : PySem.W.isFn K (.ref f) = true
def rStrOwn (C : Addr) (sp : Sp) (E : XK) : List V → Hp → VK → Prop := fun xs H Q => ∃ (a dx : Addr) (fs : List (Str × V)), xs = [.ref a] ∧ H a = some (.ins C dx fs) ∧ sp xs H (fun v H' => ∃ z : Str, v = .str z ∧ Q (.str z) H') E
theorem call_str_own (T : StrC X.K C f) (F : FnOk X.prog X.w X.K X.mg X.base CX k f fd ps sp) (hr : Room (k + 2) X.A) (hb : Binds X.K fd ps []) (hx : Passes CX X E) : CallR X (.type "str") (rStrOwn C sp E) := by
  intro pins s σ H xs us Q I r hq
  obtain ⟨a, dx, fs, rfl, ha, q⟩ := hq
  obtain ⟨u, rfl, ru⟩ := vals1 r
  cases ru
  obtain ⟨mA, J, _⟩ := ins_get I.hok ha
  obtain ⟨od, J1, _⟩ := J.look
  have hu := hr.in1.in1.units0
  refine PySem.W.kso_call hu I.kIn J1 T.st T.fn ?_
  refine thn (run_at (vs := [.ref a]) F hr.in1.in1 rfl hb hx I (.cons rfl .nil) q) fun w' s' z => ?_
  obtain ⟨v', H', I', rv, y, rfl, q'⟩ := z
  obtain ⟨t, rfl⟩ := rv
  exact ⟨.str y, H', I', ⟨t, rfl⟩, q'⟩
/-- repr of data of any depth, in a def that is called with no repr under way -/
def rReprD (K : PySem.W.Frag) : List V → Hp → VK → Prop := fun xs H Q => ∃ (x : V) (d : PyData), xs = [x] ∧ Dp K H x d ∧ d.showable = true ∧ d.hasDict = false ∧ d.depth ≤ 50 ∧ d.shown.length ≤ sizeLine ∧ Q (.str d.shown) H
theorem call_repr_data (hg : X.A.guards = some []) (hr : Room k X.A) : CallR X (.builtin "repr") (rReprD X.K) := by
  intro pins s σ H xs us Q I r hq
  obtain ⟨x, d, rfl, hd, hs, hn, hz, hl, q⟩ := hq
  obtain ⟨u, rfl, ru⟩ := vals1 r
  obtain ⟨as, rd⟩ := Dp.reads I d x u hd ru
  have hu := hr.units
  have big : ∀ a : Addr, u = .ref a → wpAny (model X.prog X.w) X.A (call (.builtin "repr") [u]) (EP X pins σ Q) X.xe s := fun a e => by
    subst e
    exact repr_of_reads' (h₀ := s.heap) rd hs (fun z => by rw [hn] at z; cases z) hg (by omega) (fun _ _ z => z) (fun h' v tk hk => ⟨.str d.shown, H, I.kept hk, ⟨v, rfl⟩, q⟩) hl
  cases hd with
  | non => cases ru; exact P.repr_of_none ⟨.str _, H, I.tok _, ⟨_, rfl⟩, q⟩
  | bl b => cases ru; exact P.repr_of_bool ⟨.str _, H, I.tok _, ⟨_, rfl⟩, by cases b <;> exact q⟩
  | int i =>
    obtain ⟨t, rfl⟩ := ru
    exact P.repr_of_int (by simpa [PyData.showable] using hs) ⟨.str _, H, I.tok _, ⟨_, rfl⟩, q⟩
  | str z =>
    obtain ⟨t, rfl⟩ := ru
    exact P.repr_of_str ⟨.str _, H, I.tok _, ⟨_, rfl⟩, q⟩ (hsz := hl)
  | lst h1 h2 => exact big _ ru
  | tup h1 h2 => exact big _ ru
/-- str(x), x an int or a text -/
theorem call_str_is : CallR X (.type "str") (fun xs H Q => (∃ i, xs = [.int i] ∧ i.natAbs.log2 < 1920 ∧ Q (.str (toString i)) H) ∨ ∃ a, xs = [.str a] ∧ Q (.str a) H) := CallR.or call_str_int SkE.call_str_str
end
end Fk

/-! Forkpolls: the law's own def, called where no repr is under way. -/
namespace Fk
open PySem PySem.Spec PyProof.Rows L2

/-- a def's promise where no repr (or the like) is under way -/
structure FnG (P : Program) (w : World) (K : PySem.W.Frag) (mg : Str → Option Value) (base : Heap) (CX : CXT) (k : Nat) (f : Addr) (fd : FuncData) (ps : List Str) (sp : Sp) : Prop where
  run : ∀ (A : Around) (outer : List Env) (s : Shared) (H : Hp) (args : Args) (us : List Value) (vs : List V) (Q : VK) (E : XK), A.guards = some [] → Room k A → Env0 P w K mg base A outer s H → BindsTo s fd args (ps.zip us) → Vals vs us → sp vs H Q E →
    codeAny (model P w) A (.call (.ref f) args) (CR CX outer P w H s Q E) s
theorem guards_deeper {A : Around} {env : Env} (h : A.guards = some []) : (A.deeper env).guards = some [] := by
  first | exact h | simpa [Around.deeper] using h
section
variable {CX : CXT} {P : Program} {w : World} {K : PySem.W.Frag} {mg : Str → Option Value} {base : Heap} {k : Nat} {f : Addr} {x qual : Str} {st : Stmt} {fd : FuncData} {N ps : List Str} {sp : Sp}
theorem fun_okG (F : Fun K x qual st f fd) (S : FnScope N ps (defScope st)) (len : ∀ vs H Q E, sp vs H Q E → vs.length = ps.length)
    (body : ∀ (cdv : Value) (A : Around) (outer : List Env) (s : Shared) (H : Hp) (vs : List V) (Q : VK) (E : XK), (A.deeper (envOfC qual (defScope st) s.heap.objs.size f cdv)).guards = some [] → Room k (A.deeper (envOfC qual (defScope st) s.heap.objs.size f cdv)) → sp vs H Q E →
      ∃ t, PSs (cxOf CX P w K mg base N qual (defScope st) f cdv A outer s H E) (defBody st) t ∧ t { nx := fun _ H' => Q .non H', rt := Q } (start N vs) H) : FnG P w K mg base CX (k + 1) f fd ps sp := by
  obtain ⟨oc, od, kV, doc, pm, an, cdv, ct, osl, rfl, lk, hcd⟩ := F.ex
  refine ⟨fun A outer s H args us vs Q E hG hr e0 hb r hsp => ?_⟩
  have KX : K.In s.heap := e0.mod.kin.keeps fun b o e => (e0.bs b o e).1
  have lim : s.heap.NoLimit := e0.mod.nolimit.keeps fun b o e => (e0.bs b o e).1
  refine codeAny_call_function hr.depth (KX _ _ lk) rfl S.co S.gen rfl (PySem.W.codeRec_of KX hcd) (hb _ _ _ _ ?_)
  refine wpAny_newFunctionEnv_cells S.kind (fun y hy => (S.par y.1 (List.of_mem_zip hy).1).elim (fun q => .inl q) fun q => .inr ⟨q, PySem.W.cellsFrom_some _ _ _ (.inl q)⟩) fun env he s1 z => ?_
  subst he
  obtain ⟨t, ht, hq⟩ := body cdv A outer s H vs Q E (guards_deeper hG) (hr.deeper _) hsp
  refine ⟨lim.keeps z.toInCall.keep, codeAny_func (wpAny_mono (ht.run [] s1 (start N vs) H _ (inv_start S hr.hd e0 (len _ _ _ _ hsp) r z) hq) (fun fl s' hs => ?_) fun _ _ hs => hs)⟩
  cases fl with
  | ret u => exact let ⟨v, _, H', J, rv, q⟩ := hs; ⟨v, H', J.os, J.bare, J.base, J.hok, rv, q⟩
  | next => exact let ⟨_, H', J, q⟩ := hs; ⟨V.non, H', J.os, J.bare, J.base, J.hok, (rfl : Value.none = Value.none), q⟩
  | brk => exact let ⟨_, _, _, q⟩ := hs; q.elim
  | cont => exact let ⟨_, _, _, q⟩ := hs; q.elim
end
/-- the heap at the law's entry, of which the script alone may be tracked -/
theorem lawG_core {P : Program} {w : World} {K : PySem.W.Frag} {mg mb : Str → Option Value} {CX : CXT} {k : Nat} {fa a : Addr} {fd : FuncData} {x : Str} {sp : Sp} {s : Shared} {vs : List Value} {H : Hp}
    (KX : K.In s.heap) (hns : s.heap.Ns mainGlobals mg) (hb : s.heap.Ns builtinsNs mb) (hbb : ∀ x : Str, x ≠ "__name__" → mb x = bootBuiltins x) (hlim : s.heap.NoLimit) (hg : s.gens = #[])
    (ha : s.heap.get? a = some { cls := .type "list", data := .seq vs.toArray }) (hr : Room k callerA)
    (F : ∀ base : Heap, K.In base → base.Ns mainGlobals mg → FnG P w K mg base CX k fa fd [x] sp) (bind : ∀ (s : Shared) (u : Value), BindsTo s fd ⟨[u], []⟩ [(x, u)])
    (hsp : sp [.ref a] H (fun v _ => v = .bl true) fun _ _ _ => False) (hCX : ∀ e s', CX [] H s (fun _ _ _ => False) e s' → False)
    (hO : Only H) (hok : HOk P w H s.heap) (hA : ∀ b, H b ≠ none → b = a) (hK : H a ≠ none → K.lookup a = none) :
    codeAny (model P w) callerA (.call (.ref fa) ⟨[.ref a], []⟩) (fun r s' => r = .ok (.ret (.bool true)) ∧ OldK s.heap s'.heap ∧ s'.os = s.os ∧ AllBare s'.gens) s := by
  have free : ∀ {b : Addr} {o : Obj} {es : Array DictEntry} {ep : Nat}, s.heap.get? b = some o → o.data = .dict es ep → H b = none := by
    intro b o es ep e d
    by_cases q : H b = none
    · exact q
    · rw [hA b q, ha] at e
      cases e
      have d' : Data.seq vs.toArray _ = Data.dict es ep := d
      cases d'
  have ns : ∀ {b : Addr} {m : Str → Option Value}, s.heap.Ns b m → (hidT s.heap H).Ns b m := fun z => let ⟨o, es, ep, e, d, r⟩ := z; ⟨o, es, ep, hidT_get e (free e d), d, r⟩
  have kin : K.In (hidT s.heap H) := fun b o e => hidT_get (KX b o e) (by
    by_cases q : H b = none
    · exact q
    · have eb := hA b q
      subst eb
      rw [hK q] at e
      cases e)
  obtain ⟨mc, l1, l2⟩ := hlim
  have e0 : Env0 P w K mg (hidT s.heap H) callerA [] s H := ⟨rfl, ⟨kin, ns hns, ⟨mb, ns hb, hbb⟩, ⟨mc, ns l1, l2⟩⟩, fun b o e => of_hidT e, Nat.le_of_eq (hidT_size _ _), trivial, fun b hb => absurd (show b ∈ ([] : List Addr) from hb) List.not_mem_nil, hok, AllBare.of_eq hg⟩
  refine codeAny_mono ((F _ kin (ns hns)).run callerA [] s H ⟨[.ref a], []⟩ [.ref a] [.ref a] _ _ rfl hr e0 (bind s (.ref a)) (.cons rfl .nil) hsp) fun r s' h => ?_
  cases r with
  | error e => exact (hCX e s' h).elim
  | ok fl =>
    cases fl with
    | next => exact h.elim
    | brk => exact h.elim
    | cont => exact h.elim
    | ret u =>
      obtain ⟨v, H', os, bare, un, hok', rv, q⟩ := h
      obtain rfl : v = V.bl true := q
      obtain rfl : u = Value.bool true := rv
      refine ⟨rfl, OldK.of_keep fun b o e => ?_, os, bare⟩
      by_cases q : H b = none
      · exact un.keep b o e q (fun z => absurd (show b ∈ ([] : List Addr) from z) List.not_mem_nil) List.not_mem_nil
      · rcases hO b with z | ⟨ob, xs, z⟩
        · exact (q z).elim
        · obtain ⟨e1, _⟩ := hok b _ z
          obtain ⟨e2, _⟩ := hok' b _ (un.frzs b ob _ z)
          rw [e] at e1
          cases e1
          exact e2
theorem walk_ofG {l : PySem.W.OpenLaw} {n k : Nat} {q : Program} {loose : List Str} {XP : (Str → Option Value) → Heap → Prop} {YP : World → Heap → Prop} {d : DefRec} {K : Params → PySem.W.Frag} {CX : World → CXT} {sp : World → Sp} {x : Str}
    (hn : l.most = some n) (hn2 : n ≤ sizeLine) (hdf : d.params.defaults = []) (hr : Room k callerA) (hY : ∀ (w : World) (h : Heap), YP w h → (K w.params).In h)
    (F : ∀ (w : World) (mg : Str → Option Value) (fa : Addr) (h : Heap), (K w.params).In h → h.Ns mainGlobals mg → mg d.name = some (.ref fa) →
      ∃ fd : FuncData, (∀ (s : Shared) (u : Value), BindsTo s fd ⟨[u], []⟩ [(x, u)]) ∧ ∀ base : Heap, (K w.params).In base → base.Ns mainGlobals mg → FnG l.prog w (K w.params) mg base (CX w) k fa fd [x] (sp w))
    (hsp : ∀ (w : World) (H : Hp) (a : Addr) (ns : List Int), ns.length ≤ n → Only H → SqL (K w.params) H a (ns.map V.int) → sp w [.ref a] H (fun v _ => v = .bl true) fun _ _ _ => False)
    (hCX : ∀ (w : World) (H : Hp) (s : Shared) (e : Value) (s' : Shared), CX w [] H s (fun _ _ _ => False) e s' → False) :
    PySem.W.WalkO q loose XP YP l.row.toRowW d [] (fun f vs => PySem.call f vs) := by
  refine Att.attach_call hn hdf fun w s₀ s mg mb fa o pm cd doc a vs ns G Y ho hd hcd hmg hobj hints hlen hg => ?_
  have KX := hY w _ Y
  obtain ⟨fd, hb, hF⟩ := F w mg fa _ KX G.T.g hmg
  have rv := vals_ints hints
  have hl : ns.length ≤ sizeLine := Nat.le_trans hlen hn2
  by_cases hk : (K w.params).lookup a = none
  · have at_a : (fun b => if b = a then some (HO.frz { cls := .type "list", data := .seq vs.toArray } (.lst (ns.map V.int))) else none) a = some (HO.frz { cls := .type "list", data := .seq vs.toArray } (.lst (ns.map V.int))) := if_pos rfl
    have off : ∀ b, b ≠ a → (fun b => if b = a then some (HO.frz { cls := .type "list", data := .seq vs.toArray } (.lst (ns.map V.int))) else none) b = none := fun b hb => if_neg hb
    generalize (fun b => if b = a then some (HO.frz { cls := .type "list", data := .seq vs.toArray } (.lst (ns.map V.int))) else none) = H at at_a off
    have hO : Only H := fun b => (Decidable.em (b = a)).elim (fun e => .inr ⟨_, _, e ▸ at_a⟩) fun e => .inl (off b e)
    refine lawG_core (H := H) KX G.T.g G.T.b G.T.builtins G.T.nolimit hg hobj hr hF hb (hsp w H a ns hlen hO (.inl (.inr ⟨_, at_a⟩))) (fun e s' => hCX w H s e s') hO (fun b u z => ?_) (fun b z => ?_) fun _ => hk
    · by_cases e : b = a
      · subst e
        rw [at_a] at z
        cases z
        exact ⟨hobj, by rw [List.length_map]; exact hl, vs, _, rv, hobj⟩
      · rw [off b e] at z
        cases z
    · exact Decidable.byContradiction fun e => z (off b e)
  · cases hk2 : (K w.params).lookup a with
    | none => exact (hk hk2).elim
    | some o2 =>
      have e := KX a o2 hk2
      rw [hobj] at e
      cases e
      have hO : Only (fun _ => none) := fun _ => .inl rfl
      exact lawG_core (H := fun _ => none) KX G.T.g G.T.b G.T.builtins G.T.nolimit hg hobj hr hF hb
        (hsp w _ a ns hlen hO (.inr ⟨_, vs.toArray, _, hk2, rfl, rfl, rfl, by rw [List.size_toArray, hints.length]; exact hl, by simpa using rv⟩)) (fun e s' => hCX w _ s e s') hO (fun b u z => nomatch (show (none : Option HO) = some u from z)) (fun b z => absurd rfl z) fun z => absurd rfl z
end Fk

/-! Forkpolls: what a reading comes to, with a few objects (R.D) that may change under a word (R.J) and all else standing. -/
namespace Fk
open PySem PySem.Spec PyProof.Rows L2

/-- D: objects that may change, by the word J; h: objects that stand while one evaluates, and of which no fact speaks -/
structure Res where
  D : List Addr
  h : List Addr
  J : Hp → Prop
  at_ : ∀ H, J H → ∀ x, x ∈ D ∨ x ∈ h → H x ≠ none
  st : ∀ H H', J H → (∀ x, x ∈ D → H' x = H x) → (∀ x, x ∈ h → H' x ≠ none) → J H'
def Free : Res where
  D := []
  h := []
  J := fun _ => True
  at_ := fun _ _ _ h => h.elim (fun z => absurd z List.not_mem_nil) fun z => absurd z List.not_mem_nil
  st := fun _ _ _ _ _ => True.intro
/-- facts stand from H to H' -/
def Gr (R : Res) (H H' : Hp) : Prop := R.J H' ∧ ∀ x o, H x = some o → x ∉ R.D → x ∉ R.h → H' x = some o
/-- what evaluating does -/
def Gv (R : Res) (H H' : Hp) : Prop := Gr R H H' ∧ ∀ x, x ∈ R.h → H' x = H x
abbrev VP := V → Hp → Prop
/-- from now on -/
abbrev Al (R : Res) (φ : Hp → Prop) (H : Hp) : Prop := ∀ H', Gr R H H' → φ H'
def Stb (R : Res) (P : VP) : Prop := ∀ v H H', Gr R H H' → P v H → P v H'
section
variable {R : Res} {H H1 H2 H' : Hp} {p : Addr} {o : HO}
theorem free_j : Free.J H := True.intro
theorem Gr.refl (h : R.J H) : Gr R H H := ⟨h, fun _ _ e _ _ => e⟩
theorem Gv.refl (h : R.J H) : Gv R H H := ⟨Gr.refl h, fun _ _ => rfl⟩
theorem Gr.tr (a : Gr R H H1) (b : Gr R H1 H2) : Gr R H H2 := ⟨b.1, fun x o e n m => b.2 x o (a.2 x o e n m) n m⟩
theorem Gr.trans (a : Gr R H H1) (b : Gv R H1 H2) : Gr R H H2 := a.tr b.1
theorem Gv.trans (a : Gv R H H1) (b : Gv R H1 H2) : Gv R H H2 := ⟨a.1.tr b.1, fun x hx => (b.2 x hx).trans (a.2 x hx)⟩
theorem Gr.at (a : Gr R H H1) : Gv R H1 H1 := Gv.refl a.1
theorem Gv.at (a : Gv R H H1) : Gv R H1 H1 := Gv.refl a.1.1
theorem Gv.same (j : R.J H) (e : Same H H') : Gv R H H' := by
  have k : ∀ x, x ∈ R.D ∨ x ∈ R.h → H' x = H x := fun x hx => by
    cases q : H x with
    | none => exact absurd q (R.at_ H j x hx)
    | some o => exact e x o q
  exact ⟨⟨R.st H H' j (fun x hx => k x (.inl hx)) fun x hx => by rw [k x (.inr hx)]; exact R.at_ H j x (.inr hx), fun x o q _ _ => e x o q⟩, fun x hx => k x (.inr hx)⟩
theorem same_new (hp : H p = none) : Same H (upd H p o) := fun b x e => by
  rw [upd_ne (ne_of_none e hp)]
  exact e
theorem Gv.new (j : R.J H) (hp : H p = none) : Gv R H (upd H p o) := Gv.same j (same_new hp)
theorem off (j : R.J H) (hp : H p = none) : p ∉ R.D ∧ p ∉ R.h := ⟨fun h => R.at_ H j p (.inl h) hp, fun h => R.at_ H j p (.inr h) hp⟩
theorem Gr.back (a : Gr R H H1) (hp : H1 p = none) : H p = none := by
  obtain ⟨h1, h2⟩ := off a.1 hp
  cases q : H p with
  | none => rfl
  | some o =>
    rw [a.2 p o q h1 h2] at hp
    cases hp
theorem Gr.free (a : Gr Free H H1) : Same H H1 := fun b o e => a.2 b o e List.not_mem_nil List.not_mem_nil
theorem gv_free (a : Same H H1) : Gv Free H H1 := Gv.same True.intro a
theorem Al.gr {φ : Hp → Prop} (a : Gr R H H1) (h : Al R φ H) : Al R φ H1 := fun H' g => h H' (a.tr g)
theorem Al.now {φ : Hp → Prop} (h : Al R φ H) (j : R.J H) : φ H := h H (Gr.refl j)
theorem al_of (hp : H p = some o) (hd : p ∉ R.D ∧ p ∉ R.h) : Al R (fun H' => H' p = some o) H := fun H' g => g.2 p o hp hd.1 hd.2
end

def Is (v : V) : VP := fun u _ => u = v
/-- v shows the datum d, from now on -/
def Rp (K : PySem.W.Frag) (R : Res) (d : PyData) : VP := fun u H => Al R (fun H' => Dp K H' u d) H
/-- a list, a tuple of these values, from now on -/
def IsL (K : PySem.W.Frag) (R : Res) (xs : List V) : VP := fun u H => ∃ p, u = .ref p ∧ Al R (fun H' => SqL K H' p xs) H
def IsU (K : PySem.W.Frag) (R : Res) (xs : List V) : VP := fun u H => ∃ p, u = .ref p ∧ Al R (fun H' => SqT K H' p xs) H
/-- a list of one's own -/
def IsN (xs : List V) : VP := fun u H => ∃ p, u = .ref p ∧ H p = some (.lst xs)
section
variable {K : PySem.W.Frag} {R : Res} {v : V} {d : PyData} {xs : List V}
theorem stb_is : Stb R (Is v) := fun _ _ _ _ h => h
theorem stb_rp : Stb R (Rp K R d) := fun _ _ _ g h => Al.gr g h
theorem stb_isL : Stb R (IsL K R xs) := fun _ _ _ g ⟨p, e, h⟩ => ⟨p, e, Al.gr g h⟩
theorem stb_isU : Stb R (IsU K R xs) := fun _ _ _ g ⟨p, e, h⟩ => ⟨p, e, Al.gr g h⟩
end
/-- te comes to some v of which P holds -/
def EvP (R : Res) (te : TE) (σ : L2.St) (H : Hp) (P : VP) : Prop := ∀ H1, Gr R H H1 → ∀ Q : VK, (∀ v H2, Gv R H1 H2 → P v H2 → Q v H2) → te σ H1 Q
def EvT (R : Res) (tt : TT) (σ : L2.St) (H : Hp) (b : Bool) : Prop := ∀ H1, Gr R H H1 → ∀ Q : Bool → Hp → Prop, (∀ H2, Gv R H1 H2 → Q b H2) → tt σ H1 Q
def PsOk : List VP → List V → Hp → Prop
  | [], [], _ => True
  | P :: Ps, v :: vs, H => P v H ∧ PsOk Ps vs H
  | _, _, _ => False
def EvA (R : Res) (ta : TA) (σ : L2.St) (H : Hp) (Ps : List VP) : Prop := ∀ H1, Gr R H H1 → ∀ Q : List V → Hp → Prop, (∀ vs H2, Gv R H1 H2 → PsOk Ps vs H2 → Q vs H2) → ta σ H1 Q
def EvO (R : Res) (to : TO) (σ : L2.St) (H : Hp) (o : Option Int) : Prop := ∀ H1, Gr R H H1 → ∀ Q : Option Int → Hp → Prop, (∀ H2, Gv R H1 H2 → Q o H2) → to σ H1 Q
/-- an operation on values; a call on values -/
def RvP (R : Res) (r : R2) (x y : V) (H : Hp) (P : VP) : Prop := ∀ Q : VK, (∀ v H2, Gv R H H2 → P v H2 → Q v H2) → r x y H Q
def RcP (R : Res) (r : List V → Hp → VK → Prop) (vs : List V) (H : Hp) (P : VP) : Prop := ∀ Q : VK, (∀ v H2, Gv R H H2 → P v H2 → Q v H2) → r vs H Q
section
variable {K : PySem.W.Frag} {R : Res} {σ : L2.St} {H H' : Hp} {ta tb te : TE} {t u : TT} {x y v : V} {r : R2} {P P' A B : VP} {i j : Int}
theorem EvP.gr (g : Gr R H H') (h : EvP R te σ H P) : EvP R te σ H' P := fun H1 a => h H1 (g.tr a)
theorem EvT.gr {b : Bool} (g : Gr R H H') (h : EvT R t σ H b) : EvT R t σ H' b := fun H1 a => h H1 (g.tr a)
theorem ev_imp (h : EvP R te σ H P) (k : ∀ v H', Gr R H H' → P v H' → P' v H') : EvP R te σ H P' := fun H1 g Q q => h H1 g Q fun v H2 g2 p => q v H2 g2 (k v H2 (g.trans g2) p)
theorem ev_var {i : Nat} (h : σ[i]? = some (some v)) (p : Al R (P v) H) : EvP R (tVar i) σ H P := fun H1 g Q q => ⟨v, h, q v H1 g.at (p H1 g)⟩
theorem ev_is {i : Nat} (h : σ[i]? = some (some v)) : EvP R (tVar i) σ H (Is v) := fun H1 g Q q => ⟨v, h, q v H1 g.at rfl⟩
theorem ev_c : EvP R (tC v) σ H (Is v) := fun H1 g Q q => q v H1 g.at rfl
theorem ev_cP (p : Al R (P v) H) : EvP R (tC v) σ H P := fun H1 g Q q => q v H1 g.at (p H1 g)
theorem ev_op (sA : Stb R A) (ha : EvP R ta σ H A) (hb : EvP R tb σ H B) (hr : ∀ x y H1, Gr R H H1 → A x H1 → B y H1 → RvP R r x y H1 P) : EvP R (tOp r ta tb) σ H P := fun H1 g Q q =>
  ha H1 g _ fun x H2 g2 px => hb H2 (g.trans g2) _ fun y H3 g3 py => hr x y H3 (g.trans (g2.trans g3)) (sA x H2 H3 g3.1 px) py Q fun v H4 g4 pv => q v H4 (g2.trans (g3.trans g4)) pv
theorem ev_opS (ha : EvP R ta σ H (Is x)) (hb : EvP R tb σ H (Is y)) (hr : ∀ H1, Gr R H H1 → RvP R r x y H1 P) : EvP R (tOp r ta tb) σ H P :=
  ev_op stb_is ha hb fun x' y' H1 g hx hy => by
    cases hx; cases hy
    exact hr H1 g
theorem ev_I0 {g : Int → Int → V} (ha : EvP R ta σ H (Is (.int i))) (hb : EvP R tb σ H (Is (.int j))) : EvP R (tOp (rI0 g) ta tb) σ H (Is (g i j)) := ev_opS ha hb fun H1 g1 Q q => ⟨i, j, rfl, rfl, q _ H1 g1.at rfl⟩
theorem ev_I {C : Int → Int → Prop} {g : Int → Int → V} (hc : C i j) (ha : EvP R ta σ H (Is (.int i))) (hb : EvP R tb σ H (Is (.int j))) : EvP R (tOp (rI C g) ta tb) σ H (Is (g i j)) := ev_opS ha hb fun H1 g1 Q q => ⟨i, j, rfl, rfl, hc, q _ H1 g1.at rfl⟩
theorem ev_eq (hs : scal x y = true) (ha : EvP R ta σ H (Is x)) (hb : EvP R tb σ H (Is y)) : EvP R (tOp rEq ta tb) σ H (Is (.bl (decide (x = y)))) := ev_opS ha hb fun H1 g1 Q q => ⟨hs, q _ H1 g1.at rfl⟩
theorem ev_ne (hs : scal x y = true) (ha : EvP R ta σ H (Is x)) (hb : EvP R tb σ H (Is y)) : EvP R (tOp rNe ta tb) σ H (Is (.bl (!decide (x = y)))) := ev_opS ha hb fun H1 g1 Q q => ⟨hs, q _ H1 g1.at rfl⟩
theorem ev_val {w : V} (h : EvP R te σ H (Is v)) (e : v = w) : EvP R te σ H (Is w) := e ▸ h
theorem ev_neg {i : Int} (ha : EvP R ta σ H (Is (.int i))) : EvP R (tUn (rU fun i => .int (-i)) ta) σ H (Is (.int (-i))) := fun H1 g Q q => ha H1 g _ fun x H2 g2 px => by
  cases px
  exact ⟨i, rfl, q _ H2 g2 rfl⟩
/-- x in, not in a tuple or list of flat things -/
theorem ev_in {neg : Bool} {xs : List V} (fx : flatV x = true) (fa : xs.all flatV = true) (ha : EvP R ta σ H (Is x)) (hb : EvP R tb σ H (fun u H => ∃ p, u = .ref p ∧ (SqL K H p xs ∨ SqT K H p xs))) :
    EvP R (tOp (rIn K neg) ta tb) σ H (Is (.bl (if neg then !inV x xs else inV x xs))) := ev_op stb_is ha hb fun x' y H1 g hx hy Q q => by
  cases hx
  obtain ⟨p, rfl, h⟩ := hy
  exact ⟨p, xs, rfl, h, fx, fa, q _ H1 g.at rfl⟩
theorem et_test {b : Bool} (h : EvP R te σ H (Is (.bl b))) : EvT R (tTest te) σ H b := fun H1 g _ q => h H1 g _ fun v H2 g2 e => ⟨b, e, q H2 g2⟩
theorem et_B {b : Bool} (h : EvP R te σ H (Is (.bl b))) : EvT R (tB te) σ H b := fun H1 g _ q => h H1 g _ fun v H2 g2 e => ⟨b, e, q H2 g2⟩
theorem et_is {a b : Bool} (h : EvT R t σ H a) (e : a = b) : EvT R t σ H b := e ▸ h
theorem et_and {a b : Bool} (h1 : EvT R t σ H a) (h2 : a = true → EvT R u σ H b) : EvT R (tAnd t u) σ H (a && b) := fun H1 g Q q => h1 H1 g _ fun H2 g2 => by
  cases a with
  | true => exact (if_pos rfl).mpr (h2 rfl H2 (g.trans g2) Q fun H3 g3 => q H3 (g2.trans g3))
  | false => exact (if_neg Bool.false_ne_true).mpr (q H2 g2)
theorem et_or {a b : Bool} (h1 : EvT R t σ H a) (h2 : a = false → EvT R u σ H b) : EvT R (tOr t u) σ H (a || b) := fun H1 g Q q => h1 H1 g _ fun H2 g2 => by
  cases a with
  | true => exact (if_pos rfl).mpr (q H2 g2)
  | false => exact (if_neg Bool.false_ne_true).mpr (h2 rfl H2 (g.trans g2) Q fun H3 g3 => q H3 (g2.trans g3))
theorem et_not {a : Bool} (h1 : EvT R t σ H a) : EvT R (tNot t) σ H (!a) := fun H1 g _ q => h1 H1 g _ q
theorem ev_and {a b : Bool} (h1 : EvP R ta σ H (Is (.bl a))) (h2 : a = true → EvP R tb σ H (Is (.bl b))) : EvP R (tAndV ta tb) σ H (Is (.bl (a && b))) := fun H1 g Q q => h1 H1 g _ fun v H2 g2 e => ⟨a, e, by
  cases a with
  | true => exact (if_pos rfl).mpr (h2 rfl H2 (g.trans g2) Q fun v H3 g3 => q v H3 (g2.trans g3))
  | false => exact (if_neg Bool.false_ne_true).mpr (q _ H2 g2 rfl)⟩
theorem ev_or {a b : Bool} (h1 : EvP R ta σ H (Is (.bl a))) (h2 : a = false → EvP R tb σ H (Is (.bl b))) : EvP R (tOrV ta tb) σ H (Is (.bl (a || b))) := fun H1 g Q q => h1 H1 g _ fun v H2 g2 e => ⟨a, e, by
  cases a with
  | true => exact (if_pos rfl).mpr (q _ H2 g2 rfl)
  | false => exact (if_neg Bool.false_ne_true).mpr (h2 rfl H2 (g.trans g2) Q fun v H3 g3 => q v H3 (g2.trans g3))⟩
theorem ev_not {a : Bool} (h1 : EvP R ta σ H (Is (.bl a))) : EvP R (tNotV ta) σ H (Is (.bl (!a))) := fun H1 g Q q => h1 H1 g _ fun v H2 g2 e => ⟨a, e, q _ H2 g2 rfl⟩
theorem ev_chain {r r' : R2} {tc : TE} {z : V} {a b : Bool} (ha : EvP R ta σ H (Is x)) (hb : EvP R tb σ H (Is y)) (hc : EvP R tc σ H (Is z)) (h1 : ∀ H1, Gr R H H1 → RvP R r x y H1 (Is (.bl a))) (h2 : ∀ H1, Gr R H H1 → RvP R r' y z H1 (Is (.bl b))) :
    EvP R (tChain r r' ta tb tc) σ H (Is (.bl (a && b))) := fun H1 g Q q =>
  ha H1 g _ fun x' H2 g2 ex => by
    cases ex
    exact hb H2 (g.trans g2) _ fun y' H3 g3 ey => by
      cases ey
      exact h1 H3 (g.trans (g2.trans g3)) _ fun w H4 g4 ew => ⟨a, ew, by
        cases a with
        | true => exact (if_pos rfl).mpr (hc H4 (g.trans (g2.trans (g3.trans g4))) _ fun z' H5 g5 ez => by
            cases ez
            exact h2 H5 (g.trans (g2.trans (g3.trans (g4.trans g5)))) _ fun v H6 g6 ev => q v H6 (g2.trans (g3.trans (g4.trans (g5.trans g6)))) ev)
        | false => exact (if_neg Bool.false_ne_true).mpr (q _ H4 (g2.trans (g3.trans g4)) rfl)⟩
theorem rv_i0 {g : Int → Int → V} (jj : R.J H) : RvP R (rI0 g) (.int i) (.int j) H (Is (g i j)) := fun Q q => ⟨i, j, rfl, rfl, q _ H (Gv.refl jj) rfl⟩
theorem ev_if {b : Bool} (h : EvT R t σ H b) (h1 : b = true → EvP R ta σ H P) (h2 : b = false → EvP R tb σ H P) : EvP R (tIf t ta tb) σ H P := fun H1 g Q q => h H1 g _ fun H2 g2 => by
  cases b with
  | true => exact (if_pos rfl).mpr (h1 rfl H2 (g.trans g2) Q fun v H3 g3 => q v H3 (g2.trans g3))
  | false => exact (if_neg Bool.false_ne_true).mpr (h2 rfl H2 (g.trans g2) Q fun v H3 g3 => q v H3 (g2.trans g3))
/-! ### arguments, calls, displays -/
theorem ea_nil : EvA R tNil σ H [] := fun H1 g _ q => q [] H1 g.at trivial
theorem ea_cons {tr : TA} {Ps : List VP} (s : Stb R P) (h : EvP R te σ H P) (hr : EvA R tr σ H Ps) : EvA R (tCons te tr) σ H (P :: Ps) := fun H1 g _ q =>
  h H1 g _ fun x H2 g2 px => hr H2 (g.trans g2) _ fun xs H3 g3 ps => q (x :: xs) H3 (g2.trans g3) ⟨s x H2 H3 g3.1 px, ps⟩
theorem ea_is {tr : TA} {Ps : List VP} (h : EvP R te σ H (Is v)) (hr : EvA R tr σ H Ps) : EvA R (tCons te tr) σ H (Is v :: Ps) := ea_cons stb_is h hr
theorem ev_cb {r : List V → Hp → VK → Prop} {ta : TA} {Ps : List VP} (h : EvA R ta σ H Ps) (hr : ∀ vs H1, Gr R H H1 → PsOk Ps vs H1 → RcP R r vs H1 P) : EvP R (tCB r ta) σ H P := fun H1 g Q q =>
  h H1 g _ fun vs H2 g2 ps => hr vs H2 (g.trans g2) ps Q fun v H3 g3 pv => q v H3 (g2.trans g3) pv
theorem ev_call {sp : Sp} {dvs : List V} {E : XK} {ta : TA} {Ps : List VP} (h : EvA R ta σ H Ps) (hs : ∀ vs H1, Gr R H H1 → PsOk Ps vs H1 → ∀ Q : VK, (∀ v H2, Gv R H1 H2 → P v H2 → Q v H2) → sp (vs ++ dvs) H1 Q E) : EvP R (tCall sp dvs E ta) σ H P := fun H1 g Q q =>
  h H1 g _ fun vs H2 g2 ps => hs vs H2 (g.trans g2) ps Q fun v H3 g3 pv => q v H3 (g2.trans g3) pv
theorem psOk1 {vs : List V} (h : PsOk [Is x] vs H) : vs = [x] := by
  match vs, h with
  | [a], ⟨e, _⟩ => exact congrArg (fun z => [z]) e
theorem psOk2 {vs : List V} (h : PsOk [Is x, Is y] vs H) : vs = [x, y] := by
  match vs, h with
  | [a, b], ⟨e1, e2, _⟩ => cases e1; cases e2; rfl
/-- isinstance -/
theorem ev_isi {ty : Value} {c : V} {cu : Value} {b : Bool} (ha : EvP R ta σ H (Is x)) (hc : EvP R tb σ H (Is c)) (hk : ClsV c cu) (hx : Al R (fun H' => TyX K H' x ty) H) (e : PySem.W.kitOne K ty cu = some b) :
    EvP R (tCB (rIsi K) (tCons ta (tCons tb tNil))) σ H (Is (.bl b)) := ev_cb (ea_is ha (ea_is hc ea_nil)) fun vs H1 g ps Q q => by
  cases psOk2 ps
  exact ⟨x, c, ty, cu, b, rfl, hk, hx H1 g, e, q _ H1 g.at rfl⟩
/-- scalars as data -/
def toD : V → PyData
  | .bl b => .bool b
  | .int i => .int i
  | .str z => .str z
  | _ => .none
theorem dp_toD (h : flatV v = true) : Dp K H v (toD v) := by
  cases v with
  | non => exact .non
  | bl b => exact .bl b
  | int i => exact .int i
  | str z => exact .str z
  | _ => exact absurd h Bool.false_ne_true
theorem rp_flat (h : flatV v = true) : Rp K R (toD v) v H := fun _ _ => dp_toD h
theorem ev_D (h : EvP R te σ H (Is v)) (f : flatV v = true) : EvP R te σ H (Rp K R (toD v)) := ev_imp h fun u H' _ e => by
  cases e
  exact rp_flat f
theorem dpAll_of {ds : List PyData} : ∀ {vs : List V}, PsOk (ds.map (Rp K R)) vs H → ∀ H', Gr R H H' → DpAll K H' vs ds := by
  induction ds with
  | nil => intro vs h H' g; match vs, h with | [], _ => exact .nil
  | cons d ds ih => intro vs h H' g; match vs, h with | v :: vs, ⟨h1, h2⟩ => exact .cons (h1 H' g) (ih h2 H' g)
theorem dpAll_len {ds : List PyData} : ∀ {vs : List V}, DpAll K H vs ds → vs.length = ds.length := by
  induction ds with
  | nil => intro vs h; cases h; rfl
  | cons d ds ih => intro vs h; cases h with | cons h1 h2 => exact congrArg Nat.succ (ih h2)
theorem psOk_len : ∀ {Ps : List VP} {vs : List V}, PsOk Ps vs H → vs.length = Ps.length := by
  intro Ps
  induction Ps with
  | nil => intro vs h; match vs, h with | [], _ => rfl
  | cons P Ps ih => intro vs h; match vs, h with | v :: vs, ⟨_, h⟩ => exact congrArg Nat.succ (ih h)
theorem small {n : Nat} (h : n ≤ 1000) : n ≤ sizeLine := Nat.le_of_lt (small1000 h)
theorem ev_tupD {ta : TA} {ds : List PyData} (h : EvA R ta σ H (ds.map (Rp K R))) (hl : ds.length ≤ 1000) : EvP R (tTup ta) σ H (Rp K R (.tuple ds)) := fun H1 g Q q =>
  h H1 g _ fun vs H2 g2 ps => by
    have el := (psOk_len ps).trans (List.length_map _)
    exact ⟨small (by omega), fun p hp => q _ _ (g2.trans (Gv.new g2.1.1 hp)) fun H' g' => .tup (.inl (.inl (g'.2 p _ upd_same (off g2.1.1 hp).1 (off g2.1.1 hp).2))) (dpAll_of ps H' ((Gv.new g2.1.1 hp).1.tr g'))⟩
theorem ev_lstD {ta : TA} {ds : List PyData} (h : EvA R ta σ H (ds.map (Rp K R))) (hl : ds.length ≤ 1000) : EvP R (tLst ta) σ H (Rp K R (.list ds)) := fun H1 g Q q =>
  h H1 g _ fun vs H2 g2 ps => by
    have el := (psOk_len ps).trans (List.length_map _)
    exact ⟨small (by omega), fun p hp => q _ _ (g2.trans (Gv.new g2.1.1 hp)) fun H' g' => .lst (.inl (.inl (g'.2 p _ upd_same (off g2.1.1 hp).1 (off g2.1.1 hp).2))) (dpAll_of ps H' ((Gv.new g2.1.1 hp).1.tr g'))⟩
/-- == and != of data -/
theorem ev_eqD {d e : PyData} (sd : SeqAt.shaped d = true) (se : SeqAt.shaped e = true) (ha : EvP R ta σ H (Rp K R d)) (hb : EvP R tb σ H (Rp K R e)) : EvP R (tOp (rEqD K) ta tb) σ H (Is (.bl (PyData.eqv d e))) :=
  ev_op stb_rp ha hb fun x y H1 g hx hy Q q => ⟨d, e, hx H1 g.at.1, hy H1 g.at.1, sd, se, q _ H1 g.at rfl⟩
theorem ev_neD {d e : PyData} (sd : SeqAt.shaped d = true) (se : SeqAt.shaped e = true) (ha : EvP R ta σ H (Rp K R d)) (hb : EvP R tb σ H (Rp K R e)) : EvP R (tOp (rNeD K) ta tb) σ H (Is (.bl (!PyData.eqv d e))) :=
  ev_op stb_rp ha hb fun x y H1 g hx hy Q q => ⟨d, e, hx H1 g.at.1, hy H1 g.at.1, sd, se, q _ H1 g.at rfl⟩
end
/-! ### statements: Hc the heap as it stands, H the heap of the facts -/
section
variable {K : PySem.W.Frag} {R : Res} {σ : L2.St} {H Hc : Hp} {te : TE} {t : TT} {P : VP} {D : Ends} {tu tw : TS} {v : V}
theorem s_ret (h : EvP R te σ H P) (g : Gr R H Hc) (k : ∀ v H1, Gr R H H1 → Gv R Hc H1 → P v H1 → D.rt v H1) : tRet te D σ Hc := h Hc g _ fun v H1 g1 p => k v H1 (g.trans g1) g1 p
theorem s_set {i : Nat} (h : EvP R te σ H P) (g : Gr R H Hc) (k : ∀ v H1, Gr R H H1 → Gv R Hc H1 → P v H1 → D.nx (σ.set i (some v)) H1) : tAsg te (gName i) D σ Hc := h Hc g _ fun v H1 g1 p => k v H1 (g.trans g1) g1 p
theorem s_drop (h : EvP R te σ H P) (g : Gr R H Hc) (k : ∀ v H1, Gr R H H1 → Gv R Hc H1 → P v H1 → D.nx σ H1) : tDrop te D σ Hc := h Hc g _ fun v H1 g1 p => k v H1 (g.trans g1) g1 p
theorem s_if {b : Bool} (h : EvT R t σ H b) (g : Gr R H Hc) (h1 : b = true → ∀ H1, Gr R H H1 → Gv R Hc H1 → tu D σ H1) (h2 : b = false → ∀ H1, Gr R H H1 → Gv R Hc H1 → tw D σ H1) : tIfS t tu tw D σ Hc := h Hc g _ fun H1 g1 => by
  cases b with
  | true => exact (if_pos rfl).mpr (h1 rfl H1 (g.trans g1) g1)
  | false => exact (if_neg Bool.false_ne_true).mpr (h2 rfl H1 (g.trans g1) g1)
theorem s_if1 {b : Bool} (h : EvT R t σ H b) (g : Gr R H Hc) (h1 : b = true → ∀ H1, Gr R H H1 → Gv R Hc H1 → tu D σ H1) (h2 : b = false → ∀ H1, Gr R H H1 → Gv R Hc H1 → D.nx σ H1) : tIfS t tu tNext D σ Hc := s_if h g h1 h2
end
end Fk

/-! Forkpolls: loops and comprehensions, calls by name. -/
namespace Fk
open PySem PySem.Spec PyProof.Rows L2
/-- one more object of which no fact speaks -/
def Res.add (R : Res) (p : Addr) : Res where
  D := R.D
  h := p :: R.h
  J := fun H => R.J H ∧ H p ≠ none
  at_ := fun H j x hx => by
    rcases hx with e | e
    · exact R.at_ H j.1 x (.inl e)
    · rcases List.mem_cons.mp e with e | e
      · rw [e]
        exact j.2
      · exact R.at_ H j.1 x (.inr e)
  st := fun H H' j k m => ⟨R.st H H' j.1 k fun x hx => m x (List.mem_cons_of_mem _ hx), m p List.mem_cons_self⟩
section
variable {R : Res} {H H' H1 : Hp} {p : Addr} {o : HO} {φ : Hp → Prop}
theorem add_into (hn : H p = none) (g : Gr (R.add p) H H') : Gr R H H' := ⟨g.1.1, fun x o e n m => g.2 x o e n fun z => by
  rcases List.mem_cons.mp z with q | q
  · rw [q, hn] at e
    cases e
  · exact m q⟩
theorem al_into (hn : H p = none) (h : Al R φ H) : Al (R.add p) φ H := fun H' g => h H' (add_into hn g)
theorem add_out (hp : H p = some o) (hd : p ∉ R.D ∧ p ∉ R.h) (g : Gr R H H') : Gr (R.add p) H H' := ⟨⟨g.1, by rw [g.2 p o hp hd.1 hd.2]; exact fun z => nomatch z⟩, fun x o e n m => g.2 x o e n fun z => m (List.mem_cons_of_mem _ z)⟩
theorem al_out (hp : H p = some o) (hd : p ∉ R.D ∧ p ∉ R.h) (h : Al (R.add p) φ H) : Al R φ H := fun H' g => h H' (add_out hp hd g)
theorem add_mut (hd : p ∉ R.D ∧ p ∉ R.h) (g : Gr (R.add p) H H') : Gr (R.add p) H (upd H' p o) := by
  have some_ne : ∀ x, (upd H' p o) x = some o ∨ (upd H' p o) x = H' x := fun x => by
    by_cases e : x = p
    · rw [e]; exact .inl upd_same
    · exact .inr (upd_ne e)
  refine ⟨⟨R.st H' _ g.1.1 (fun x hx => upd_ne fun z => hd.1 (by rw [← z]; exact hx)) fun x hx => by
      rcases some_ne x with q | q
      · rw [q]; exact fun z => nomatch z
      · rw [q]; exact R.at_ H' g.1.1 x (.inr hx), by rw [upd_same]; exact fun z => nomatch z⟩, fun x u e n m => ?_⟩
  have hx : x ≠ p := fun z => m (by rw [z]; exact List.mem_cons_self)
  rw [upd_ne hx]
  exact g.2 x u e n m
theorem add_new (j : R.J H) (hn : H p = none) : Gr (R.add p) H (upd H p o) := ⟨⟨(Gv.new j hn).1.1, by rw [upd_same]; exact fun z => nomatch z⟩, fun x u e _ _ => same_new hn x u e⟩
end
section
variable {R : Res} {H H' : Hp} {P : VP} {Ps Qs : List VP} {xs : List V} {v : V}
theorem psOk_snoc : ∀ {Ps : List VP} {xs : List V}, PsOk Ps xs H → P v H → PsOk (Ps ++ [P]) (xs ++ [v]) H := by
  intro Ps
  induction Ps with
  | nil => intro xs h hp; match xs, h with | [], _ => exact ⟨hp, True.intro⟩
  | cons A Ps ih => intro xs h hp; match xs, h with | x :: xs, ⟨h1, h2⟩ => exact ⟨h1, ih h2 hp⟩
theorem psOk_imp {f g : Nat → VP} {l : List Nat} (k : ∀ i, i ∈ l → ∀ v, f i v H → g i v H') : ∀ {xs : List V}, PsOk (l.map f) xs H → PsOk (l.map g) xs H' := by
  induction l with
  | nil => intro xs h; match xs, h with | [], _ => exact True.intro
  | cons i l ih => intro xs h; match xs, h with | x :: xs, ⟨h1, h2⟩ => exact ⟨k i List.mem_cons_self x h1, ih (fun j hj => k j (List.mem_cons_of_mem _ hj)) h2⟩
end
/-- a source of n turns -/
def EvW (R : Res) (wi : TI) (σ : L2.St) (H : Hp) (n : Nat) (Y : Nat → Hp → V → Hp → Prop) : Prop :=
  ∀ H1, Gr R H H1 → ∀ Z : It → Hp → Prop, (∀ J H2 G, Gv R H1 H2 → Walk J n G Y → Al R G H2 → Z J H2) → wi σ H1 Z
section
variable {K : PySem.W.Frag} {R : Res} {σ : L2.St} {H Hc : Hp} {tl te : TE} {tt : TT} {wi : TI} {g : TG} {xs : List V} {n : Nat} {Y : Nat → Hp → V → Hp → Prop} {vs : List Nat}
theorem ew_list (h : EvP R tl σ H (IsL K R xs)) : EvW R (iList K tl) σ H xs.length (YAt xs) := fun H1 a Z k => h H1 a _ fun v H2 a2 ⟨p, e, q⟩ => ⟨p, e, ⟨xs, q.now a2.1.1⟩, k _ H2 _ a2 walk_list q⟩
theorem ew_tup (h : EvP R tl σ H (IsU K R xs)) : EvW R (iTup K tl) σ H xs.length (YAt xs) := fun H1 a Z k => h H1 a _ fun v H2 a2 ⟨p, e, q⟩ => ⟨p, e, ⟨xs, q.now a2.1.1⟩, k _ H2 _ a2 walk_tup q⟩
theorem ew_str {z : Str} (h : EvP R tl σ H (Is (.str z))) : EvW R (iStr tl) σ H z.cps.size (fun i H v H' => H' = H ∧ ∃ c, z.cps[i]? = some c ∧ v = .str ⟨#[c]⟩) := fun H1 a Z k => h H1 a _ fun v H2 a2 e => ⟨z, e, k _ H2 _ a2 walk_str fun _ _ => True.intro⟩
theorem ew_range {ta : TA} {m : Int} (h : EvA R ta σ H [Is (.int m)]) (hm : 0 ≤ m ∧ m ≤ 100000) : EvW R (iRng1 ta) σ H m.toNat (YFn fun i => .int (i : Int)) := fun H1 a Z k => h H1 a _ fun vs H2 a2 ps => by
  have e := psOk1 ps
  refine ⟨m, e, by omega, by omega, k _ H2 _ a2 (walk_range.mono (fun _ _ => True.intro) fun i H x H' _ _ y => ?_) fun _ _ => True.intro⟩
  obtain ⟨y1, y2⟩ := y
  exact ⟨y1, y2.trans (congrArg V.int (Int.zero_add _))⟩
/-- what a comprehension gives -/
def gl (n : Nat) (f : Nat → Bool) (Pe : Nat → VP) : List VP := ((List.range n).filter f).map Pe
theorem gl_yes {f : Nat → Bool} {Pe : Nat → VP} (h : f n = true) : gl (n + 1) f Pe = gl n f Pe ++ [Pe n] := by
  unfold gl
  rw [List.range_succ, List.filter_append, List.map_append, List.filter_cons, if_pos h] <;> rfl
theorem gl_no {f : Nat → Bool} {Pe : Nat → VP} (h : f n = false) : gl (n + 1) f Pe = gl n f Pe := by
  unfold gl
  rw [List.range_succ, List.filter_append, List.map_append, List.filter_cons, if_neg (by rw [h]; decide), List.filter_nil, List.map_nil, List.append_nil]
theorem gl_len (f : Nat → Bool) (Pe : Nat → VP) : (gl n f Pe).length ≤ n := by
  unfold gl
  rw [List.length_map]
  exact Nat.le_trans (List.length_filter_le _ _) (Nat.le_of_eq (List.length_range))
/-- a list of one's own; the i-th is told by the i-th word -/
def LsOk (R : Res) (Ps : List VP) : VP := fun u H => ∃ p xs, u = .ref p ∧ H p = some (.lst xs) ∧ (p ∉ R.D ∧ p ∉ R.h) ∧ PsOk Ps xs H
theorem ev_lc {j : Nat} {Z : Nat → V → Prop} (Pe : Res → Nat → VP) (f : Nat → Bool) (hw : EvW R wi σ H n Y) (hn : n ≤ 1000) (hY : ∀ R' i H x H', Res.J R' H → i < n → Y i H x H' → Gv R' H H' ∧ Z i x)
    (hσ : ∀ x, wipe ((wipe σ vs).set j (some x)) vs = wipe σ vs) (st : ∀ R' i, Stb R' (Pe R' i)) (out : ∀ D i v H' xs, H' D = some (.lst xs) → (D ∉ R.D ∧ D ∉ R.h) → Pe (R.add D) i v H' → Pe R i v H')
    (he : ∀ D, H D = none → ∀ i x, i < n → Z i x → EvT (R.add D) tt ((wipe σ vs).set j (some x)) H (f i) ∧ (f i = true → EvP (R.add D) te ((wipe σ vs).set j (some x)) H (Pe (R.add D) i))) :
    EvP R (tLc wi (gName j) tt te vs) σ H (LsOk R (gl n f (Pe R))) := fun H0 a0 Q q => hw H0 a0 _ fun J H1 G a1 W hG => fun D hD => by
  have hd := off a1.1.1 hD
  have hD0 : H D = none := (a0.trans a1).back hD
  have ne : ∀ x, x ∈ R.h → x ≠ D := fun x hx z => hd.2 (by rw [← z]; exact hx)
  have base : ∀ {H2 : Hp}, Gr (R.add D) H1 H2 → Gr (R.add D) H H2 := fun {H2} g => ⟨g.1, fun x o e m k => g.2 x o ((a0.trans a1).2 x o e m fun z => k (List.mem_cons_of_mem _ z)) m k⟩
  refine lc_it W (fun i H' => (Gr (R.add D) H1 H' ∧ ∀ x, x ∈ R.h → H' x = H1 x) ∧ ∃ xs, H' D = some (.lst xs) ∧ PsOk (gl i f (Pe (R.add D))) xs H') ⟨⟨add_new a1.1.1 hD, fun x hx => upd_ne (ne x hx)⟩, [], upd_same, True.intro⟩ (fun i H' hi p => hG H' (add_into hD p.1.1)) (fun i x H2 H3 hi p y => ?_) fun H' p => ?_
  · obtain ⟨⟨g2, k2⟩, xs, hx, ps⟩ := p
    obtain ⟨g3, z⟩ := hY (R.add D) i H2 x H3 g2.1 hi y
    obtain ⟨et, ee⟩ := he D hD0 i x hi z
    refine ⟨hσ x, et H3 (base (g2.trans g3)) _ fun H4 g4 => ?_⟩
    have keep : ∀ {A B : Hp}, Gr (R.add D) A B → PsOk (gl i f (Pe (R.add D))) xs A → PsOk (gl i f (Pe (R.add D))) xs B := fun {A B} g h => psOk_imp (fun k _ v pv => st (R.add D) k v A B g pv) h
    have g24 := g3.trans g4
    have inh : ∀ x, x ∈ R.h → x ∈ (R.add D).h := fun x hx => List.mem_cons_of_mem _ hx
    have hD4 : H4 D = some (.lst xs) := (g24.2 D List.mem_cons_self).trans hx
    cases hf : f i with
    | false =>
      refine (if_neg Bool.false_ne_true).mpr ⟨⟨g2.trans g24, fun x hx => (g24.2 x (inh x hx)).trans (k2 x hx)⟩, xs, hD4, ?_⟩
      rw [gl_no hf]
      exact keep g24.1 ps
    | true =>
      refine (if_pos rfl).mpr (ee hf H4 (base (g2.trans g24)) _ fun v H5 g5 pv => ?_)
      have g25 := g24.trans g5
      have hD5 : H5 D = some (.lst xs) := (g25.2 D List.mem_cons_self).trans hx
      have ps5 := keep g25.1 ps
      have gm : Gr (R.add D) H5 (upd H5 D (.lst (xs ++ [v]))) := add_mut hd g5.at.1
      refine ⟨xs, hD5, ?_, ⟨(g2.trans g25).tr gm, fun x hx => (upd_ne (ne x hx)).trans ((g25.2 x (inh x hx)).trans (k2 x hx))⟩, _, upd_same, ?_⟩
      · have := psOk_len ps5
        have := gl_len (n := i) f (Pe (R.add D))
        exact small1000 (by omega)
      · rw [gl_yes hf]
        exact psOk_snoc (keep gm ps5) (st _ i v _ _ gm pv)
  · obtain ⟨⟨g2, k2⟩, xs, hx, ps⟩ := p
    have gr : Gv R H1 H' := ⟨add_into hD g2, k2⟩
    exact q _ _ (a1.trans gr) ⟨D, xs, rfl, hx, hd, psOk_imp (fun i _ v pv => out D i v H' xs hx hd pv) ps⟩
/-- .. of data -/
theorem ev_lcD {j : Nat} {Z : Nat → V → Prop} (d : Nat → PyData) (f : Nat → Bool) (hw : EvW R wi σ H n Y) (hn : n ≤ 1000) (hY : ∀ R' i H x H', Res.J R' H → i < n → Y i H x H' → Gv R' H H' ∧ Z i x)
    (hσ : ∀ x, wipe ((wipe σ vs).set j (some x)) vs = wipe σ vs)
    (he : ∀ D, H D = none → ∀ i x, i < n → Z i x → EvT (R.add D) tt ((wipe σ vs).set j (some x)) H (f i) ∧ (f i = true → EvP (R.add D) te ((wipe σ vs).set j (some x)) H (Rp K (R.add D) (d i)))) :
    EvP R (tLc wi (gName j) tt te vs) σ H (Rp K R (.list (((List.range n).filter f).map d))) :=
  ev_imp (ev_lc (fun R' i => Rp K R' (d i)) f hw hn hY hσ (fun _ _ => stb_rp) (fun D i v H' xs hx hd h => al_out hx hd h) he) fun v H' g p => by
    obtain ⟨a, xs, rfl, ha, hd, ps⟩ := p
    intro H2 g2
    have ps' : PsOk ((((List.range n).filter f).map d).map (Rp K R)) xs H' := by
      rw [List.map_map]
      exact ps
    exact .lst (.inl (.inl (g2.2 a _ ha hd.1 hd.2))) (dpAll_of ps' H2 g2)
/-- .. of flat things -/
theorem psIs {l : List V} : ∀ {xs : List V}, PsOk (l.map Is) xs H → xs = l := by
  induction l with
  | nil => intro xs h; match xs, h with | [], _ => rfl
  | cons a l ih => intro xs h; match xs, h with | x :: xs, ⟨h1, h2⟩ => rw [ih h2, show x = a from h1]
theorem ev_lcV {j : Nat} {Z : Nat → V → Prop} (d : Nat → V) (f : Nat → Bool) (hw : EvW R wi σ H n Y) (hn : n ≤ 1000) (hY : ∀ R' i H x H', Res.J R' H → i < n → Y i H x H' → Gv R' H H' ∧ Z i x)
    (hσ : ∀ x, wipe ((wipe σ vs).set j (some x)) vs = wipe σ vs)
    (he : ∀ D, H D = none → ∀ i x, i < n → Z i x → EvT (R.add D) tt ((wipe σ vs).set j (some x)) H (f i) ∧ (f i = true → EvP (R.add D) te ((wipe σ vs).set j (some x)) H (Is (d i)))) :
    EvP R (tLc wi (gName j) tt te vs) σ H (fun u H => ∃ p, u = .ref p ∧ H p = some (.lst (((List.range n).filter f).map d)) ∧ (p ∉ R.D ∧ p ∉ R.h)) :=
  ev_imp (ev_lc (fun R' i => Is (d i)) f hw hn hY hσ (fun _ _ => stb_is) (fun D i v H' xs hx hd h => h) he) fun v H' g p => by
    obtain ⟨a, xs, rfl, ha, hd, ps⟩ := p
    have ps' : PsOk ((((List.range n).filter f).map d).map Is) xs H' := by
      rw [List.map_map]
      exact ps
    rw [psIs ps'] at ha
    exact ⟨a, rfl, ha, hd⟩
theorem isL_of {p : Addr} (h : H p = some (.lst xs)) (hd : p ∉ R.D ∧ p ∉ R.h) : IsL K R xs (.ref p) H := ⟨p, rfl, fun H' g => .inl (.inl (g.2 p _ h hd.1 hd.2))⟩
theorem isU_of {p : Addr} (h : H p = some (.tup xs)) (hd : p ∉ R.D ∧ p ∉ R.h) : IsU K R xs (.ref p) H := ⟨p, rfl, fun H' g => .inl (.inl (g.2 p _ h hd.1 hd.2))⟩
theorem yAt_ok : ∀ (R' : Res) i (H : Hp) x H', R'.J H → i < n → YAt xs i H x H' → Gv R' H H' ∧ xs[i]? = some x := fun R' i H x H' j _ y => ⟨by rw [y.1]; exact Gv.refl j, y.2⟩
theorem yFn_ok {f : Nat → V} : ∀ (R' : Res) i (H : Hp) x H', R'.J H → i < n → YFn f i H x H' → Gv R' H H' ∧ x = f i := fun R' i H x H' j _ y => ⟨by rw [y.1]; exact Gv.refl j, y.2⟩
theorem yStr_ok {z : Str} : ∀ (R' : Res) i (H : Hp) v H', R'.J H → i < n → (H' = H ∧ ∃ c, z.cps[i]? = some c ∧ v = .str ⟨#[c]⟩) → Gv R' H H' ∧ ∃ c, z.cps[i]? = some c ∧ v = V.str ⟨#[c]⟩ := fun R' i H x H' j _ y => ⟨by rw [y.1]; exact Gv.refl j, y.2⟩
theorem et_yes {H : Hp} {σ : L2.St} : EvT R tYes σ H true := fun H1 g Q q => q H1 g.at
/-- a for -/
theorem s_for {tb : TS} {D : Ends} {g : TG} (hw : EvW R wi σ H n Y) (gc : Gr R H Hc)
    (k : ∀ H1, Gr R H H1 → Gv R Hc H1 → ∃ Pv : Nat → L2.St → Hp → Prop, Pv 0 σ H1 ∧ (∀ i σ' H', i ≤ n → Pv i σ' H' → Gr R H1 H') ∧
      (∀ i x σ' H' H2, i < n → Pv i σ' H' → Y i H' x H2 → g x σ' H2 fun σ2 H3 => tb { D with nx := Pv (i + 1), ct := Pv (i + 1), bk := D.nx } σ2 H3) ∧ ∀ σ' H', Pv n σ' H' → D.nx σ' H') :
    tFor wi g tb D σ Hc := hw Hc gc _ fun J H1 G a1 W hG => by
  obtain ⟨Pv, h0, h1, h2, h3⟩ := k H1 (gc.trans a1) a1
  exact for_it W Pv h0 (fun i σ' H' hi p => hG H' (h1 i σ' H' hi p)) h2 h3
end
end Fk

/-! Forkpolls: defs and classes by their names. -/
namespace Fk
open PySem PySem.Spec PyProof.Rows L2
/-- the def x holds sp -/
def CalX (P : Program) (w : World) (K : PySem.W.Frag) (mg : Str → Option Value) (base : Heap) (CX : CXT) (k : Nat) (x : Str) (sp : Sp) : Prop :=
  ∃ (f : Addr) (fd : FuncData) (ps : List Str), FnOk P w K mg base CX k f fd ps sp ∧ mg x = some (.ref f) ∧ PySem.W.keepIn K (.ref f) = true ∧ Binds K fd ps []
/-- the class x makes an instance of the class at C by an __init__ that holds sp -/
def MakX (P : Program) (w : World) (K : PySem.W.Frag) (mg : Str → Option Value) (base : Heap) (CX : CXT) (k : Nat) (x : Str) (C : Addr) (sp : Sp) : Prop :=
  ∃ (f : Addr) (fd : FuncData) (ps : List Str), FnOk P w K mg base CX k f fd ps sp ∧ mg x = some (.ref C) ∧ Mk K C f ∧ Binds K fd ps []
section
variable {P : Program} {w : World} {K : PySem.W.Frag} {mg : Str → Option Value} {base : Heap} {CX : CXT} {k j : Nat} {x qual : Str} {st : Stmt} {f : Addr} {ps : List Str} {sp : Sp}
theorem cal_of (d : mg x = some (.ref f) ∧ ∃ fd, Fun K x qual st f fd) (ok : ∀ fd, Fun K x qual st f fd → FnOk P w K mg base CX k f fd ps sp)
    (b : ∀ (kV doc pm : Value) (an : Option Addr) (cdv ct : Value) (us : List Value), us.length = ps.length → bindArgs (PySem.W.fnOf x qual (defArgs st) (defBody st) (defScope st) .none kV doc pm an cdv ct) ⟨us, []⟩ = pure (ps.zip us)) : CalX P w K mg base CX k x sp := by
  obtain ⟨g, fd, F⟩ := d
  exact ⟨f, fd, ps, ok fd F, g, F.kp, F.binds b⟩
theorem mak_of {C : Addr} {m : Str} (g : mg x = some (.ref C)) (M : Mk K C f) (d : ∃ fd, Fun K m qual st f fd) (ok : ∀ fd, Fun K m qual st f fd → FnOk P w K mg base CX k f fd ps sp)
    (b : ∀ (kV doc pm : Value) (an : Option Addr) (cdv ct : Value) (us : List Value), us.length = ps.length → bindArgs (PySem.W.fnOf m qual (defArgs st) (defBody st) (defScope st) .none kV doc pm an cdv ct) ⟨us, []⟩ = pure (ps.zip us)) : MakX P w K mg base CX k x C sp := by
  obtain ⟨fd, F⟩ := d
  exact ⟨f, fd, ps, ok fd F, g, M, F.binds b⟩
end
section
variable {X : Cx} {CX : CXT} {k j : Nat} {x : Str} {C : Addr} {sp : Sp} {E : XK} {p pos : Pos} {e : Expr} {es : List Expr} {t : TA}
theorem pe_cal (c : CalX X.prog X.w X.K X.mg X.base CX k x sp) (hr : Room j X.A) (hk : k ≤ j) (hx : Passes CX X E) (ha : PA X (e :: es) t) (hg : Gl X x := by rfl) (hdb : (x == ("__debug__" : Str)) = false := by decide)
    (he : starEach (e :: es) X.env = (false, eval e X.env) :: starEach es X.env := by rfl) (hpl : (backTo pos (starEach es X.env)).any (·.1) = false := by rfl) : PE X (.Call (.Name x p) (e :: es) [] pos) (tCall sp [] E t) := by
  obtain ⟨f, fd, ps, F, g, kp, b⟩ := c
  exact pe_call F (hr.mono hk) hg g kp b .nil hx ha hdb he hpl
theorem pe_cal0 (c : CalX X.prog X.w X.K X.mg X.base CX k x sp) (hr : Room j X.A) (hk : k ≤ j) (hx : Passes CX X E) (hg : Gl X x := by rfl) (hdb : (x == ("__debug__" : Str)) = false := by decide) : PE X (.Call (.Name x p) [] [] pos) (tCall sp [] E tNil) := by
  obtain ⟨f, fd, ps, F, g, kp, b⟩ := c
  exact pe_call0 F (hr.mono hk) hg g kp b .nil hx hdb
theorem pe_mkc (c : MakX X.prog X.w X.K X.mg X.base CX k x C sp) (hr : Room j X.A) (hk : k + 1 ≤ j) (hx : Passes CX X E) (ha : PA X (e :: es) t) (hg : Gl X x := by rfl) (hdb : (x == ("__debug__" : Str)) = false := by decide)
    (he : starEach (e :: es) X.env = (false, eval e X.env) :: starEach es X.env := by rfl) (hpl : (backTo pos (starEach es X.env)).any (·.1) = false := by rfl) : PE X (.Call (.Name x p) (e :: es) [] pos) (tMake C sp [] E t) := by
  obtain ⟨f, fd, ps, F, g, M, b⟩ := c
  exact pe_make M F (hr.mono hk) hg g b .nil hx ha hdb he hpl
end
/-- an own class whose instances are plain -/
structure OwnC (K : PySem.W.Frag) (C : Addr) : Prop where
  pg : PySem.W.plainGet K C Str.empty = true
  hd : PySem.W.hasDictIn K C = true
  po : PySem.W.plainOver K C = true
  sa : PySem.W.findIn K (.ref C) "__setattr__" = some (some (.builtin "object.__setattr__"))
  ma : PySem.W.makesIn K C = true
  kp : PySem.W.keepIn K (.ref C) = true
  ha : PySem.W.findIn K (.ref C) "__class__" = some (some (.builtin "object.__class__"))
  ne : PySem.W.findIn K (.ref C) "__ne__" = some (some (.builtin "object.__ne__"))
  mo : PySem.W.mroIn K C (.type "object") = some true
  ic : PySem.W.isClsIn K C = true
  ty : PySem.W.typeIn K (.ref C) = some (.type "type")
  me : PySem.W.subIn K (.ref C) (.ref C) = some true
/-- of the classes' own descriptor -/
structure ObjC (K : PySem.W.Frag) : Prop where
  gt : PySem.W.specialIn K (.builtin "object.__class__") "__get__" = some (some (.builtin "getset_descriptor.__get__"))
  tk : PySem.W.takesIn K (.builtin "object.__class__") = some true
section
variable {K : PySem.W.Frag} {C D : Addr} {t : Value} {b : Bool} {H : Hp}
theorem OwnC.cls (c : OwnC K C) : Cls K C := ⟨c.pg, c.hd, c.po, c.sa⟩
theorem OwnC.typ (c : OwnC K C) (o : ObjC K) {a dx : Addr} {fs : List (Str × V)} (e : H a = some (.ins C dx fs)) : TyX K H (.ref a) (.ref C) := .base (.ins e c.cls c.ha o.gt o.tk c.mo)
/-- isinstance(.., C): the answer -/
theorem OwnC.kit (c : OwnC K C) (h : PySem.W.subIn K t (.ref C) = some b) : PySem.W.kitOne K t (.ref C) = some b := by
  unfold PySem.W.kitOne
  by_cases e : (t == Value.ref C) = true
  · rw [if_pos e]
    have e' : t = .ref C := beq_iff_eq.mp e
    subst e'
    rw [c.me] at h
    exact h
  · rw [if_neg e]
    have z : ((PySem.W.clsIn K C).isSome && PySem.W.typeIn K (.ref C) == some (.type "type")) = true := by
      have z1 : (PySem.W.clsIn K C).isSome = true := c.ic
      rw [z1, c.ty]
      rfl
    show (if ((PySem.W.clsIn K C).isSome && PySem.W.typeIn K (.ref C) == some (.type "type")) = true then PySem.W.subIn K t (.ref C) else none) = some b
    rw [if_pos z]
    exact h
/-- isinstance(an instance, a built-in class) -/
theorem kit_ownB {T : String} (hm : PySem.W.kitMeta T = true) (h : PySem.W.subIn K (.ref C) (.type T) = some b) : PySem.W.kitOne K (.ref C) (.type T) = some b := by
  unfold PySem.W.kitOne
  rw [if_neg (by simp)]
  show (if PySem.W.kitMeta T = true then PySem.W.subIn K (.ref C) (.type T) else none) = some b
  rw [if_pos hm]
  exact h
theorem notFirst_of (h : PySem.W.subIn K t (.ref C) = some false) : PySem.W.notFirst K C t = true := by
  unfold PySem.W.notFirst
  rw [h]
  simp
theorem notFirst_me : PySem.W.notFirst K C (.ref C) = true := by
  unfold PySem.W.notFirst
  simp
end
/-! ### flat values -/
def isI : V → Bool
  | .int _ => true
  | _ => false
def isB : V → Bool
  | .bl _ => true
  | _ => false
def isS : V → Bool
  | .str _ => true
  | _ => false
def tyN : V → String
  | .bl _ => "bool"
  | .int _ => "int"
  | .str _ => "str"
  | _ => "NoneType"
section
variable {K : PySem.W.Frag} {H : Hp} {v : V}
theorem ty_flat (h : flatV v = true) : TyX K H v (.type (tyN v)) := by
  cases v with
  | non => exact .base .non
  | bl b => exact .base (.bl b)
  | int i => exact .base (.int i)
  | str z => exact .base (.str z)
  | _ => exact absurd h Bool.false_ne_true
theorem kit_int (h : flatV v = true) : PySem.W.kitOne K (.type (tyN v)) (.type "int") = some (isI v || isB v) := by
  cases v with
  | non => exact kit_ty (show kitB "NoneType" "int" = some false by decide +kernel)
  | bl b => exact kit_ty (show kitB "bool" "int" = some true by decide +kernel)
  | int i => exact kit_ty (show kitB "int" "int" = some true by decide +kernel)
  | str z => exact kit_ty (show kitB "str" "int" = some false by decide +kernel)
  | _ => exact absurd h Bool.false_ne_true
theorem kit_bool (h : flatV v = true) : PySem.W.kitOne K (.type (tyN v)) (.type "bool") = some (isB v) := by
  cases v with
  | non => exact kit_ty (show kitB "NoneType" "bool" = some false by decide +kernel)
  | bl b => exact kit_ty (show kitB "bool" "bool" = some true by decide +kernel)
  | int i => exact kit_ty (show kitB "int" "bool" = some false by decide +kernel)
  | str z => exact kit_ty (show kitB "str" "bool" = some false by decide +kernel)
  | _ => exact absurd h Bool.false_ne_true
theorem kit_str (h : flatV v = true) : PySem.W.kitOne K (.type (tyN v)) (.type "str") = some (isS v) := by
  cases v with
  | non => exact kit_ty (show kitB "NoneType" "str" = some false by decide +kernel)
  | bl b => exact kit_ty (show kitB "bool" "str" = some false by decide +kernel)
  | int i => exact kit_ty (show kitB "int" "str" = some false by decide +kernel)
  | str z => exact kit_ty (show kitB "str" "str" = some true by decide +kernel)
  | _ => exact absurd h Bool.false_ne_true
end
/-! ### texts -/
def sp1 : Str := " "
def letters (z : Str) : Bool := z.cps.toList.all fun c => decide (97 ≤ c) && decide (c ≤ 122)
def keyws : List V := [.str "any", .str "by", .str "one", .str "same", .str "to"]
def nameS (z : Str) : Bool := !inV (.str z) keyws && (decide (1 ≤ z.length) && decide (z.length ≤ 4) && letters z)
def nameV : V → Bool
  | .str z => nameS z
  | _ => false

section
variable {K : PySem.W.Frag} {R : Res} {σ : L2.St} {H : Hp} {ta tb te : TE} {z y : Str}
theorem ev_lenS (ha : EvP R ta σ H (Is (.str z))) (hz : z.length ≤ 100000) : EvP R (tCB (fun xs H Q => ∃ z : Str, xs = [.str z] ∧ z.length ≤ sizeLine ∧ Q (.int z.length) H) (tCons ta tNil)) σ H (Is (.int z.length)) := ev_cb (ea_is ha ea_nil) fun vs H1 g ps Q q => by
  cases psOk1 ps
  exact ⟨z, rfl, Nat.le_trans hz (by decide), q _ H1 g.at rfl⟩
/-- len of a list or tuple -/
theorem ev_len {xs : List V} (ha : EvP R ta σ H (fun u H => ∃ p, u = .ref p ∧ (SqL K H p xs ∨ SqT K H p xs))) : EvP R (tCB (fun vs H Q => ∃ p ys, vs = [.ref p] ∧ (SqL K H p ys ∨ SqT K H p ys) ∧ Q (.int ys.length) H) (tCons ta tNil)) σ H (Is (.int (xs.length : Int))) := fun H1 g Q q =>
  ha H1 g _ fun v H2 g2 ⟨p, e, h⟩ => ⟨p, xs, by rw [e], h, q _ H2 g2 rfl⟩
theorem ev_all {bs : List Bool} (ha : EvP R ta σ H (fun u H => ∃ p, u = .ref p ∧ SqL K H p (bs.map V.bl))) : EvP R (tCB (rAll K) (tCons ta tNil)) σ H (Is (.bl (bs.all id))) := fun H1 g Q q =>
  ha H1 g _ fun v H2 g2 ⟨p, e, h⟩ => ⟨p, bs, by rw [e], h, q _ H2 g2 rfl⟩
theorem rv_le {a b : Str} (j : R.J H) : RvP R (fun x y H Q => ∃ i j : Str, x = .str i ∧ y = .str j ∧ Q (.bl (!decide (j.cps.toList < i.cps.toList))) H) (.str a) (.str b) H (Is (.bl (!decide (b.cps.toList < a.cps.toList)))) := fun Q q => ⟨a, b, rfl, rfl, q _ H (Gv.refl j) rfl⟩
theorem filter_yes (n : Nat) : (List.range n).filter (fun _ => true) = List.range n := List.filter_eq_self.mpr fun _ _ => rfl
theorem lt_one (a b : Nat) : decide (([a] : List Nat) < [b]) = decide (a < b) := by
  rw [Bool.eq_iff_iff, decide_eq_true_iff, decide_eq_true_iff, List.cons_lt_cons_iff]
  constructor
  · rintro (h | ⟨_, h⟩)
    · exact h
    · exact absurd h (List.not_lt_nil _)
  · exact Or.inl
theorem az_lo (c : Nat) : (!decide ((⟨#[c]⟩ : Str).cps.toList < ("a" : Str).cps.toList)) = decide (97 ≤ c) := by
  show (!decide ([c] < [97])) = decide (97 ≤ c)
  rw [lt_one]
  by_cases h : 97 ≤ c
  · rw [decide_eq_true h, decide_eq_false (by omega)]; rfl
  · rw [decide_eq_false h, decide_eq_true (by omega)]; rfl
theorem az_hi (c : Nat) : (!decide (("z" : Str).cps.toList < (⟨#[c]⟩ : Str).cps.toList)) = decide (c ≤ 122) := by
  show (!decide ([122] < [c])) = decide (c ≤ 122)
  rw [lt_one]
  by_cases h : c ≤ 122
  · rw [decide_eq_true h, decide_eq_false (by omega)]; rfl
  · rw [decide_eq_false h, decide_eq_true (by omega)]; rfl
theorem letters_is (z : Str) : letters z = ((List.range z.cps.size).map fun i => (decide (97 ≤ z.cps.getD i 0) && decide (z.cps.getD i 0 ≤ 122))).all id := by
  unfold letters
  rw [List.all_map, Bool.eq_iff_iff, List.all_eq_true, List.all_eq_true]
  constructor
  · intro h i hi
    have hi' : i < z.cps.size := List.mem_range.mp hi
    have := h z.cps[i] (by simp)
    simpa [Array.getD, hi'] using this
  · intro h c hc
    obtain ⟨i, hi, rfl⟩ := List.getElem_of_mem hc
    have hi' : i < z.cps.size := by simpa using hi
    have := h i (List.mem_range.mpr hi')
    simpa [Array.getD, hi'] using this
theorem ev_chainI {tc : TE} {p q : Int → Int → Bool} {i j k : Int} (ha : EvP R ta σ H (Is (.int i))) (hb : EvP R tb σ H (Is (.int j))) (hc : EvP R tc σ H (Is (.int k))) :
    EvP R (tChain (rI0 fun i j => .bl (p i j)) (rI0 fun i j => .bl (q i j)) ta tb tc) σ H (Is (.bl (p i j && q j k))) := ev_chain ha hb hc (fun H1 g => rv_i0 g.1) (fun H1 g => rv_i0 g.1)
/-- a tuple, a list of flat things, new -/
theorem ev_tupV {t : TA} {vs : List V} (h : EvA R t σ H (vs.map Is)) (hl : vs.length ≤ 1000) : EvP R (tTup t) σ H (fun u H => ∃ p, u = .ref p ∧ H p = some (.tup vs) ∧ (p ∉ R.D ∧ p ∉ R.h)) := fun H1 g Q q =>
  h H1 g _ fun xs H2 g2 ps => by
    cases psIs ps
    exact ⟨small hl, fun p hp => q _ _ (g2.trans (Gv.new g2.1.1 hp)) ⟨p, rfl, upd_same, off g2.1.1 hp⟩⟩
theorem ev_lstV {t : TA} {vs : List V} (h : EvA R t σ H (vs.map Is)) (hl : vs.length ≤ 1000) : EvP R (tLst t) σ H (fun u H => ∃ p, u = .ref p ∧ H p = some (.lst vs) ∧ (p ∉ R.D ∧ p ∉ R.h)) := fun H1 g Q q =>
  h H1 g _ fun xs H2 g2 ps => by
    cases psIs ps
    exact ⟨small hl, fun p hp => q _ _ (g2.trans (Gv.new g2.1.1 hp)) ⟨p, rfl, upd_same, off g2.1.1 hp⟩⟩
theorem ev_strI {i : Int} (ha : EvP R ta σ H (Is (.int i))) (hz : i.natAbs.log2 < 1920) : EvP R (tCB (fun xs H Q => ∃ i, xs = [.int i] ∧ i.natAbs.log2 < 1920 ∧ Q (.str (toString i)) H) (tCons ta tNil)) σ H (Is (.str (toString i))) := ev_cb (ea_is ha ea_nil) fun vs H1 g ps Q q => by
  cases psOk1 ps
  exact ⟨i, rfl, hz, q _ H1 g.at rfl⟩
end
/-! ### data stand while their objects stand -/
section
variable {K : PySem.W.Frag} {H H' : Hp}
mutual
theorem dp_same (e : Same H H') : ∀ (d : PyData) (v : V), Dp K H v d → Dp K H' v d
  | .none, _, h => by cases h; exact .non
  | .bool b, _, h => by cases h; exact .bl b
  | .int i, _, h => by cases h; exact .int i
  | .str z, _, h => by cases h; exact .str z
  | .list ds, _, h => by
    cases h with
    | lst h1 h2 => exact .lst (SqL.ext h1 e) (dpAll_same e ds _ h2)
  | .tuple ds, _, h => by
    cases h with
    | tup h1 h2 => exact .tup (SqT.ext h1 e) (dpAll_same e ds _ h2)
  | .dict _, _, h => by cases h
theorem dpAll_same (e : Same H H') : ∀ (ds : List PyData) (vs : List V), DpAll K H vs ds → DpAll K H' vs ds
  | [], _, h => by cases h; exact .nil
  | d :: ds, _, h => by
    cases h with
    | cons h1 h2 => exact .cons (dp_same e d _ h1) (dpAll_same e ds _ h2)
end
theorem rp_free {v : V} {d : PyData} (h : Dp K H v d) : Rp K Free d v H := fun H' g => dp_same g.free d v h
theorem dpAll_get {ds : List PyData} : ∀ {xs : List V} {i : Nat} {x : V}, DpAll K H xs ds → xs[i]? = some x → ∃ d, ds[i]? = some d ∧ Dp K H x d := by
  induction ds with
  | nil => intro xs i x h e; cases h; simp at e
  | cons d ds ih =>
    intro xs i x h e
    cases h with
    | cons h1 h2 =>
      cases i with
      | zero => simp at e; subst e; exact ⟨d, rfl, h1⟩
      | succ i => exact ih h2 (by simpa using e)
theorem dp_tup {v : V} {ds : List PyData} (h : Dp K H v (.tuple ds)) : ∃ a xs, v = .ref a ∧ SqT K H a xs ∧ DpAll K H xs ds := by
  cases h with
  | tup h1 h2 => exact ⟨_, _, rfl, h1, h2⟩
theorem dp_lst {v : V} {ds : List PyData} (h : Dp K H v (.list ds)) : ∃ a xs, v = .ref a ∧ SqL K H a xs ∧ DpAll K H xs ds := by
  cases h with
  | lst h1 h2 => exact ⟨_, _, rfl, h1, h2⟩
theorem dp_str {v : V} {z : Str} (h : Dp K H v (.str z)) : v = .str z := by cases h; rfl
theorem dp_int {v : V} {i : Int} (h : Dp K H v (.int i)) : v = .int i := by cases h; rfl
theorem dp_bool {v : V} {b : Bool} (h : Dp K H v (.bool b)) : v = .bl b := by cases h; rfl
theorem al_free {φ : Hp → Prop} (h : ∀ H', Same H H' → φ H') : Al Free φ H := fun H' g => h H' g.free
end
end Fk

/-! Forkpolls: what rows are. -/
namespace Fk
open PySem PySem.Spec PyProof.Rows L2
inductive RowD where
  | step (kind old then_ : Str) (add : Int)
  | join (here there then_ : Str) (add : Int)
  | part (old left right : Str) (add more : Int)
def numS (i : Int) : Str := (toString i : String)
def RowD.words : RowD → List Str
  | .step k o t a => [k, o, "to", t, "by", numS a]
  | .join h o t a => ["join", h, o, "to", t, "by", numS a]
  | .part o l r a m => ["part", o, "to", l, r, "by", numS a, numS m]
def RowD.text (r : RowD) : Str := Txt.join " " r.words
def RowD.flds (t : Addr) : RowD → List (Str × V)
  | .step k o n a => [("words", .ref t), ("kind", .str k), ("old", .str o), ("then", .str n), ("add", .int a)]
  | .join h o n a => [("words", .ref t), ("here", .str h), ("there", .str o), ("then", .str n), ("add", .int a)]
  | .part o l r a m => [("words", .ref t), ("old", .str o), ("left", .str l), ("right", .str r), ("add", .int a), ("more", .int m)]
def kindsV : List V := [.str "yes", .str "no", .str "late yes", .str "late no", .str "word", .str "strike", .str "back", .str "cut"]
def nameOr (z : Str) (ws : List V) : Bool := nameS z || inV (.str z) ws
def addOk (i : Int) : Bool := decide (-3 ≤ i) && decide (i ≤ 3)
def RowD.ok : RowD → Bool
  | .step k o t a => inV (.str k) kindsV && nameOr o [.str "any"] && nameOr t [.str "same"] && addOk a
  | .join h o t a => nameOr h [.str "any"] && nameOr o [.str "any"] && nameOr t [.str "one", .str "other"] && addOk a
  | .part o l r a m => nameOr o [.str "any"] && nameOr l [.str "same"] && nameOr r [.str "same"] && addOk a && addOk m
/-- texts of its parts are short -/
def RowD.small : RowD → Prop
  | .step k o t _ => k.length ≤ 1000 ∧ o.length ≤ 1000 ∧ t.length ≤ 1000
  | .join h o t _ => h.length ≤ 1000 ∧ o.length ≤ 1000 ∧ t.length ≤ 1000
  | .part o l r _ _ => o.length ≤ 1000 ∧ l.length ≤ 1000 ∧ r.length ≤ 1000
section
variable {K : PySem.W.Frag} {R : Res} {σ : L2.St} {H : Hp} {ta tb te : TE}
theorem ev_tupU {t : TA} {vs : List V} (h : EvA R t σ H (vs.map Is)) (hl : vs.length ≤ 1000) : EvP R (tTup t) σ H (IsU K R vs) := ev_imp (ev_tupV h hl) fun u H' _ ⟨p, e, hp, hd⟩ => e ▸ isU_of hp hd
theorem add_log {a : Int} (h : addOk a = true) : a.natAbs.log2 < 1920 := by
  obtain ⟨h1, h2⟩ := Bool.and_eq_true_iff.mp h
  have h1' : -3 ≤ a := of_decide_eq_true h1
  have h2' : a ≤ 3 := of_decide_eq_true h2
  have : a.natAbs ≤ 3 := by omega
  have h3 : a.natAbs.log2 ≤ 3 := Nat.le_trans (Nat.log2_le_self _) this
  omega
theorem psOk_2 {x : V} {P : VP} {vs : List V} (h : PsOk [Is x, P] vs H) : ∃ v, vs = [x, v] ∧ P v H := by
  match vs, h with
  | [a, b], ⟨e1, e2, _⟩ => cases e1; exact ⟨b, rfl, e2⟩
/-- a new tuple of these -/
def TupN (R : Res) (vs : List V) : VP := fun u H => ∃ p, u = .ref p ∧ H p = some (.tup vs) ∧ (p ∉ R.D ∧ p ∉ R.h)
theorem stb_tupN {vs : List V} : Stb R (TupN R vs) := fun _ _ _ g ⟨p, e, h, hd⟩ => ⟨p, e, g.2 p _ h hd.1 hd.2, hd⟩
theorem ev_tupN {t : TA} {vs : List V} (h : EvA R t σ H (vs.map Is)) (hl : vs.length ≤ 1000) : EvP R (tTup t) σ H (TupN R vs) := ev_tupV h hl
/-- a new tuple of these, new at H0, too -/
def TupW (R : Res) (H0 : Hp) (vs : List V) : VP := fun u H => ∃ p, u = .ref p ∧ H p = some (.tup vs) ∧ (p ∉ R.D ∧ p ∉ R.h) ∧ H0 p = none
theorem stb_tupW {H0 : Hp} {vs : List V} : Stb R (TupW R H0 vs) := fun _ _ _ g ⟨p, e, h, hd, hn⟩ => ⟨p, e, g.2 p _ h hd.1 hd.2, hd, hn⟩
theorem ev_tupW {t : TA} {vs : List V} (h : EvA R t σ H (vs.map Is)) (hl : vs.length ≤ 1000) : EvP R (tTup t) σ H (TupW R H vs) := fun H1 g Q q =>
  h H1 g _ fun xs H2 g2 ps => by
    cases psIs ps
    exact ⟨small hl, fun p hp => q _ _ (g2.trans (Gv.new g2.1.1 hp)) ⟨p, rfl, upd_same, off g2.1.1 hp, (g.trans g2).back hp⟩⟩
theorem s_off {t : TA} {C : Addr} {sp : Sp} {E : XK} {D : Ends} {Ps : List VP} {Hc : Hp} (h : EvA R t σ H Ps) (g : Gr R H Hc) (k : ∀ vs H2, Gr R H H2 → Gv R Hc H2 → PsOk Ps vs H2 → sp vs H2 (fun _ H3 => D.nx σ H3) E) : tDrop (tOff C sp E (tC (.ref C)) t) D σ Hc :=
  ⟨rfl, h Hc g _ fun vs H2 g2 ps => k vs H2 (g.trans g2) g2 ps⟩
/-- self.f = a slot's value -/
theorem s_fld {D : Ends} {i : Nat} {f : Str} {a C dx : Addr} {fs : List (Str × V)} {v : V} (h0 : σ[0]? = some (some (.ref a))) (hi : σ[i]? = some (some v)) (ha : H a = some (.ins C dx fs)) (hc : Cls K C) (hn : NoAttr K C f) (hl : fs.length < 1000) (k : D.nx σ (upd H a (.ins C dx (putF f v fs)))) :
    sFld K (tVar 0) (tVar i) f D σ H := ⟨v, hi, .ref a, h0, a, C, dx, fs, rfl, ha, hc, hn, hl, k⟩
theorem ev_fld {a C dx : Addr} {fs : List (Str × V)} {v : V} {f : Str} (h : EvP R te σ H (Is (.ref a))) (ha : Al R (fun H' => H' a = some (.ins C dx fs)) H) (hc : Cls K C) (hn : NoAttr K C f) (hl : fs.lookup f = some v) : EvP R (tFld K te f) σ H (Is v) := fun H1 g Q q =>
  h H1 g _ fun u H2 g2 e => ⟨a, C, dx, fs, v, e, ha H2 (g.trans g2), hc, hn, hl, q v H2 g2 rfl⟩
abbrev rJoin (K : PySem.W.Frag) : V → List V → Hp → VK → Prop := fun x xs H Q => ∃ a p, ∃ ys : List Str, x = .str a ∧ xs = [.ref p] ∧ (SqL K H p (ys.map V.str) ∨ SqT K H p (ys.map V.str)) ∧ (ys.map (·.length)).sum + ys.length * a.length ≤ 16777216 ∧ Q (.str (Txt.join a ys)) H
theorem ev_join {z : Str} {ys : List Str} (ho : EvP R te σ H (Is (.str z))) (h : EvP R ta σ H (fun u H => ∃ p, u = .ref p ∧ (SqL K H p (ys.map V.str) ∨ SqT K H p (ys.map V.str)))) (hz : (ys.map (·.length)).sum + ys.length * z.length ≤ 16777216) :
    EvP R (tBM K "str" (rJoin K) te (tCons ta tNil)) σ H (Is (.str (Txt.join z ys))) := fun H1 g Q q =>
  ho H1 g _ fun x H2 g2 e => by
    cases e
    exact ⟨rfl, h H2 (g.trans g2) _ fun u H3 g3 ⟨p, e, hp⟩ => ⟨z, p, ys, rfl, by rw [e], hp, hz, q _ H3 (g2.trans g3) rfl⟩⟩
theorem dec_str' {a b : Str} : decide (V.str a = V.str b) = decide (a = b) := by
  by_cases h : a = b
  · subst h; simp
  · rw [decide_eq_false h, decide_eq_false (fun e => h (V.str.inj e))]
/-- a row as it may be made -/
def RowD.good (r : RowD) : Prop := r.ok = true ∧ r.small
theorem numS_len {a : Int} (h : addOk a = true) : (numS a).length ≤ 2 := by
  obtain ⟨h1, h2⟩ := Bool.and_eq_true_iff.mp h
  have h1' : -3 ≤ a := of_decide_eq_true h1
  have h2' : a ≤ 3 := of_decide_eq_true h2
  have : a = -3 ∨ a = -2 ∨ a = -1 ∨ a = 0 ∨ a = 1 ∨ a = 2 ∨ a = 3 := by omega
  rcases this with rfl | rfl | rfl | rfl | rfl | rfl | rfl <;> decide +kernel
theorem words_fit {r : RowD} (h : r.good) : (r.words.map (·.length)).sum + r.words.length * (" " : Str).length ≤ 16777216 := by
  obtain ⟨ok, sm⟩ := h
  have l1 : ("to" : Str).length = 2 := rfl
  have l2 : ("by" : Str).length = 2 := rfl
  have l3 : ("join" : Str).length = 4 := rfl
  have l4 : ("part" : Str).length = 4 := rfl
  have l5 : (" " : Str).length = 1 := rfl
  cases r with
  | step k o t a =>
    have la := numS_len (Bool.and_eq_true_iff.mp ok).2
    obtain ⟨s1, s2, s3⟩ := sm
    simp only [RowD.words, List.map_cons, List.map_nil, List.sum_cons, List.sum_nil, List.length_cons, List.length_nil, l1, l2, l5]
    omega
  | join k o t a =>
    have la := numS_len (Bool.and_eq_true_iff.mp ok).2
    obtain ⟨s1, s2, s3⟩ := sm
    simp only [RowD.words, List.map_cons, List.map_nil, List.sum_cons, List.sum_nil, List.length_cons, List.length_nil, l1, l2, l3, l5]
    omega
  | part o l r a m =>
    obtain ⟨ok2, okm⟩ := Bool.and_eq_true_iff.mp ok
    have la := numS_len (Bool.and_eq_true_iff.mp ok2).2
    have lm := numS_len okm
    obtain ⟨s1, s2, s3⟩ := sm
    simp only [RowD.words, List.map_cons, List.map_nil, List.sum_cons, List.sum_nil, List.length_cons, List.length_nil, l1, l2, l4, l5]
    omega
end
end Fk

/-! Forkpolls: the source of draws, a list [cells, number] that changes at each draw. -/
namespace Fk
open PySem PySem.Spec PyProof.Rows L2
/-- the list at a holds the list at b and a number -/
def DealAt (a b : Addr) (cs : List Int) (m : Int) (H : Hp) : Prop := H a = some (.lst [.ref b, .int m]) ∧ H b = some (.lst (cs.map V.int)) ∧ (∀ c, c ∈ cs → 0 ≤ c) ∧ cs.length ≤ 64 ∧ 0 ≤ m ∧ m < 2147483647
def DealJ (a b : Addr) (H : Hp) : Prop := ∃ cs m, DealAt a b cs m H
theorem DealAt.ne {a b : Addr} {cs : List Int} {m : Int} {H : Hp} (h : DealAt a b cs m H) : a ≠ b := fun e => by
  obtain ⟨h1, h2, _⟩ := h
  rw [e, h2] at h1
  have h3 := HO.lst.inj (Option.some.inj h1)
  cases cs with
  | nil => cases h3
  | cons c cs => exact nomatch (List.cons.inj h3).1
/-- all but the source stands -/
def Rest (a b : Addr) (H H' : Hp) : Prop := ∀ x o, x ≠ a → x ≠ b → H x = some o → H' x = some o
theorem Rest.refl {a b : Addr} (H : Hp) : Rest a b H H := fun _ _ _ _ e => e
theorem Rest.trans {a b : Addr} {H H1 H2 : Hp} (x : Rest a b H H1) (y : Rest a b H1 H2) : Rest a b H H2 := fun c o n m e => y c o n m (x c o n m e)
theorem Rest.same {a b : Addr} {H H' : Hp} (e : Same H H') : Rest a b H H' := fun c o _ _ h => e c o h
/-- R's changing objects are the source's -/
structure IsDeal (R : Res) (a b : Addr) : Prop where
  d : R.D = [a, b]
  j : ∀ H, R.J H ↔ DealJ a b H ∧ ∀ x, x ∈ R.h → H x ≠ none
  n : ∀ x, x ∈ R.h → x ≠ a ∧ x ≠ b
def DealR (a b : Addr) : Res where
  D := [a, b]
  h := []
  J := DealJ a b
  at_ := fun H j x hx => by
    obtain ⟨cs, m, h1, h2, _⟩ := j
    rcases hx with h | h
    · rcases List.mem_cons.mp h with e | e
      · rw [e, h1]; exact fun z => nomatch z
      · rw [List.mem_singleton.mp e, h2]; exact fun z => nomatch z
    · exact absurd h List.not_mem_nil
  st := fun H H' j k _ => by
    obtain ⟨cs, m, h1, h2, h3⟩ := j
    exact ⟨cs, m, by rw [k a (by simp), h1], by rw [k b (by simp), h2], h3⟩
theorem isDeal_R {a b : Addr} : IsDeal (DealR a b) a b := ⟨rfl, fun H => ⟨fun h => ⟨h, fun x hx => absurd hx List.not_mem_nil⟩, fun h => h.1⟩, fun x hx => absurd hx List.not_mem_nil⟩
section
variable {R : Res} {a b p : Addr} {H H' H1 : Hp}
theorem IsDeal.add (h : IsDeal R a b) (hp : p ≠ a ∧ p ≠ b) : IsDeal (R.add p) a b where
  d := h.d
  j := fun H => by
    constructor
    · rintro ⟨j, n⟩
      refine ⟨((h.j H).mp j).1, fun x hx => ?_⟩
      rcases List.mem_cons.mp hx with e | e
      · rw [e]; exact n
      · exact ((h.j H).mp j).2 x e
    · rintro ⟨j, n⟩
      exact ⟨(h.j H).mpr ⟨j, fun x hx => n x (List.mem_cons_of_mem _ hx)⟩, n p List.mem_cons_self⟩
  n := fun x hx => by
    rcases List.mem_cons.mp hx with e | e
    · rw [e]; exact hp
    · exact h.n x e
theorem IsDeal.off (h : IsDeal R a b) (j : R.J H) (hp : H p = none) : p ≠ a ∧ p ≠ b := by
  obtain ⟨⟨cs, m, h1, h2, _⟩, _⟩ := (h.j H).mp j
  exact ⟨fun e => (by rw [e, h1] at hp; exact nomatch hp), fun e => (by rw [e, h2] at hp; exact nomatch hp)⟩
theorem IsDeal.gv (h : IsDeal R a b) (j : R.J H) (d : DealJ a b H') (r : Rest a b H H') : Gv R H H' := by
  have hh : ∀ x, x ∈ R.h → H' x = H x := fun x hx => by
    obtain ⟨n1, n2⟩ := h.n x hx
    cases q : H x with
    | none => exact absurd q (R.at_ H j x (.inr hx))
    | some o => exact r x o n1 n2 q
  refine ⟨⟨(h.j H').mpr ⟨d, fun x hx => by rw [hh x hx]; exact R.at_ H j x (.inr hx)⟩, fun x o e n _ => ?_⟩, hh⟩
  rw [h.d] at n
  exact r x o (fun e => n (by simp [e])) (fun e => n (by simp [e])) e
theorem Gr.rest (h : IsDeal R a b) (hn : R.h = []) (g : Gr R H H') : Rest a b H H' := fun x o n1 n2 e => g.2 x o e (by rw [h.d]; simp [n1, n2]) (by rw [hn]; exact List.not_mem_nil)
end
/-! ### more of reading -/
section
variable {K : PySem.W.Frag} {R : Res} {σ : L2.St} {H Hc : Hp} {ta tb te : TE} {t : TT} {D : Ends} {tu : TS} {v : V}
theorem ev_ixL {xs : List V} {i : Int} (ha : EvP R ta σ H (IsL K R xs)) (hb : EvP R tb σ H (Is (.int i))) (hx : atI xs i = some v) : EvP R (tOp (rIxL K) ta tb) σ H (Is v) := ev_op stb_isL ha hb fun x y H1 g ⟨p, e, h⟩ hy Q q => by
  cases hy
  exact ⟨p, xs, i, v, e, rfl, h.now g.1, hx, q v H1 g.at rfl⟩
theorem ev_ixT {xs : List V} {i : Int} (ha : EvP R ta σ H (IsU K R xs)) (hb : EvP R tb σ H (Is (.int i))) (hx : atI xs i = some v) : EvP R (tOp (rIxT K) ta tb) σ H (Is v) := ev_op stb_isU ha hb fun x y H1 g ⟨p, e, h⟩ hy Q q => by
  cases hy
  exact ⟨p, xs, i, v, e, rfl, h.now g.1, hx, q v H1 g.at rfl⟩
theorem ev_varL {i : Nat} {p : Addr} {xs : List V} (h : σ[i]? = some (some (.ref p))) (hp : Al R (fun H' => SqL K H' p xs) H) : EvP R (tVar i) σ H (IsL K R xs) := ev_var h fun H' g => ⟨p, rfl, Al.gr g hp⟩
theorem al_lst {p : Addr} {xs : List V} (h : H p = some (.lst xs)) (hd : p ∉ R.D ∧ p ∉ R.h) : Al R (fun H' => SqL K H' p xs) H := fun H' g => .inl (.inl (g.2 p _ h hd.1 hd.2))
theorem al_tup {p : Addr} {xs : List V} (h : H p = some (.tup xs)) (hd : p ∉ R.D ∧ p ∉ R.h) : Al R (fun H' => SqT K H' p xs) H := fun H' g => .inl (.inl (g.2 p _ h hd.1 hd.2))
theorem ev_int1 {i : Int} (ha : EvP R ta σ H (Is (.int i))) : EvP R (tCB (fun xs H Q => (∃ i, xs = [.int i] ∧ Q (.int i) H) ∨ ∃ k, xs = [.bl k] ∧ Q (.int (if k then 1 else 0)) H) (tCons ta tNil)) σ H (Is (.int i)) := ev_cb (ea_is ha ea_nil) fun vs H1 g ps Q q => by
  cases psOk1 ps
  exact .inl ⟨i, rfl, q _ H1 g.at rfl⟩
theorem ev_abs {i : Int} (ha : EvP R ta σ H (Is (.int i))) : EvP R (tCB (fun xs H Q => ∃ i, xs = [.int i] ∧ Q (.int (if i < 0 then -i else i)) H) (tCons ta tNil)) σ H (Is (.int (if i < 0 then -i else i))) := ev_cb (ea_is ha ea_nil) fun vs H1 g ps Q q => by
  cases psOk1 ps
  exact ⟨i, rfl, q _ H1 g.at rfl⟩
theorem s_while (W : Nat → L2.St → Hp → Prop) (m0 : Nat) (h0 : W m0 σ Hc)
    (hs : ∀ m σ' H', W m σ' H' → ∃ b, EvT R t σ' H' b ∧ Gr R H' H' ∧ (b = true → ∀ H1, Gv R H' H1 → ∃ N : L2.St → Hp → Prop, (∀ σ2 H2, N σ2 H2 → ∃ m', m' < m ∧ W m' σ2 H2) ∧ tu { D with nx := N, ct := N, bk := D.nx } σ' H1) ∧ (b = false → ∀ H1, Gv R H' H1 → D.nx σ' H1)) : tWhile t tu D σ Hc :=
  ⟨W, ⟨m0, h0⟩, fun m σ' H' hw => by
    obtain ⟨b, hb, g, h1, h2⟩ := hs m σ' H' hw
    refine hb H' g _ fun H1 g1 => ?_
    cases b with
    | true => exact (if_pos rfl).mpr (h1 rfl H1 g1)
    | false => exact (if_neg Bool.false_ne_true).mpr (h2 rfl H1 g1)⟩
end
/-! ### data of ints -/
def dInts (cs : List Int) : PyData := .list (cs.map PyData.int)
theorem eqv_nilI (cs : List Int) : PyData.eqv (dInts cs) (.list []) = cs.isEmpty := by cases cs <;> rfl
theorem dpAll_ints {K : PySem.W.Frag} {H : Hp} : ∀ cs : List Int, DpAll K H (cs.map V.int) (cs.map PyData.int)
  | [] => .nil
  | c :: cs => .cons (.int c) (dpAll_ints cs)
theorem canLay_ints : ∀ cs : List Int, PyData.canLayAll0 (cs.map PyData.int) = true
  | [] => rfl
  | c :: cs => by
    show (PyData.canLay0 (.int c) && PyData.canLayAll0 (cs.map PyData.int)) = true
    rw [canLay_ints cs]
    rfl
theorem depth_ints : ∀ cs : List Int, (dInts cs).depth ≤ 1
  | [] => by decide
  | c :: cs => by
    have ih := depth_ints cs
    simp only [dInts, List.map_cons, PyData.depth, PyData.depthAll] at ih ⊢
    omega
theorem shaped_ints (cs : List Int) : SeqAt.shaped (dInts cs) = true := by
  have h1 : (dInts cs).canLay0 = true := canLay_ints cs
  have h2 := depth_ints cs
  unfold SeqAt.shaped
  rw [h1, decide_eq_true (by omega)]
  rfl
theorem rp_ints {K : PySem.W.Frag} {R : Res} {H : Hp} {p : Addr} {cs : List Int} (h : Al R (fun H' => SqL K H' p (cs.map V.int)) H) : Rp K R (dInts cs) (.ref p) H := fun H' g => .lst (h H' g) (dpAll_ints cs)
end Fk

/-! Forkpolls: lists and tuples of one's own, counted, cut, put together; calls that draw. -/
namespace Fk
open PySem PySem.Spec PyProof.Rows L2
/-! ### list.count of bools -/
def eqb (k : Bool) (v : Value) : Bool := match v with
  | .bool b => b == k
  | _ => false
theorem vals_bools : ∀ {bs : List Bool} {us : List Value}, Vals (bs.map V.bl) us → us = bs.map Value.bool
  | [], _, h => by cases h; rfl
  | b :: bs, _, h => by
    cases h with
    | cons h1 h2 =>
      have ih := vals_bools h2
      cases h1
      rw [ih]
      rfl
theorem eqb_count (k : Bool) : ∀ bs : List Bool, (bs.map Value.bool).countP (eqb k) = bs.count k
  | [] => rfl
  | b :: bs => by
    have ih := eqb_count k bs
    rw [List.map_cons, List.countP_cons, List.count_cons, ih] <;> rfl
section
variable {X : Cx}
def rCntB (K : PySem.W.Frag) : V → List V → Hp → VK → Prop := fun x xs H Q => ∃ (p : Addr) (bs : List Bool) (k : Bool), x = .ref p ∧ xs = [.bl k] ∧ SqL K H p (bs.map V.bl) ∧ Q (.int (bs.count k : Nat)) H
theorem mt_lcountB : MtR X "list.count" (rCntB X.K) := by
  intro pins s σ H x xs v us Q I rx rxs h
  obtain ⟨p, bs, k, rfl, rfl, hs, q⟩ := h
  cases rx
  obtain ⟨u, rfl, ru⟩ := rxs.one
  cases ru
  obtain ⟨its, rv, ⟨⟨cls, dd, data, sl⟩, n, ho, hc, hdn, hd⟩, hlen⟩ := I.list hs
  simp only at hc hd
  subst hc hd
  have hi := vals_bools rv
  refine call_meets PySem.F.slot_list_count ⟨_, ho, rfl⟩ PySem.F.entry_list_count (PySem.F.args_list_count_2 _ _)
    (SeqAt.list_countAt p its.toArray n dd sl (.bool k) (eqb k)) ⟨ho, fun y hy => ?_, ?_⟩
  · have hy' : y ∈ its := by simpa using hy
    rw [hi] at hy'
    obtain ⟨b, _, rfl⟩ := List.mem_map.mp hy'
    exact SeqAt.EqAt.bool_bool b k
  · have ec : its.toArray.toList.countP (eqb k) = bs.count k := by rw [← eqb_count k bs, ← hi]
    refine ⟨.int (bs.count k : Nat), H, I.tok _, ⟨s.toks, ?_⟩, q⟩
    show Value.int ((its.toArray.toList.countP (eqb k) : Nat) : Int) s.toks = Value.int ((bs.count k : Nat) : Int) s.toks
    rw [ec]
end
/-! ### lists and tuples of one's own -/
def LstN (R : Res) (vs : List V) : VP := fun u H => ∃ p, u = .ref p ∧ H p = some (.lst vs) ∧ (p ∉ R.D ∧ p ∉ R.h)
section
variable {K : PySem.W.Frag} {R : Res} {σ : L2.St} {H Hc : Hp} {ta tb te tl : TE} {to1 to2 : TO} {t : TA} {xs ys vs : List V} {v : V}
theorem stb_lstN : Stb R (LstN R vs) := fun _ _ _ g ⟨p, e, h, hd⟩ => ⟨p, e, g.2 p _ h hd.1 hd.2, hd⟩
theorem lstN_L {u : V} (h : LstN R vs u H) : IsL K R vs u H := let ⟨_, e, hp, hd⟩ := h; e ▸ isL_of hp hd
theorem tupN_U {u : V} (h : TupN R vs u H) : IsU K R vs u H := let ⟨_, e, hp, hd⟩ := h; e ▸ isU_of hp hd
theorem ev_L (h : EvP R te σ H (LstN R vs)) : EvP R te σ H (IsL K R vs) := ev_imp h fun _ _ _ e => lstN_L e
theorem ev_U (h : EvP R te σ H (TupN R vs)) : EvP R te σ H (IsU K R vs) := ev_imp h fun _ _ _ e => tupN_U e
theorem ev_lstN (h : EvA R t σ H (vs.map Is)) (hl : vs.length ≤ 1000) : EvP R (tLst t) σ H (LstN R vs) := ev_lstV h hl
theorem ev_varLN {i : Nat} {p : Addr} (h : σ[i]? = some (some (.ref p))) (hp : H p = some (.lst vs)) (hd : p ∉ R.D ∧ p ∉ R.h) : EvP R (tVar i) σ H (LstN R vs) := ev_var h fun H' g => ⟨p, rfl, g.2 p _ hp hd.1 hd.2, hd⟩
theorem ev_varTN {i : Nat} {p : Addr} (h : σ[i]? = some (some (.ref p))) (hp : H p = some (.tup vs)) (hd : p ∉ R.D ∧ p ∉ R.h) : EvP R (tVar i) σ H (TupN R vs) := ev_var h fun H' g => ⟨p, rfl, g.2 p _ hp hd.1 hd.2, hd⟩
theorem ev_cat (ha : EvP R ta σ H (LstN R xs)) (hb : EvP R tb σ H (LstN R ys)) (hl : xs.length + ys.length ≤ 1000) : EvP R (tOp rCat ta tb) σ H (LstN R (xs ++ ys)) :=
  ev_op stb_lstN ha hb fun x y H1 g ⟨p, e1, h1, _⟩ ⟨p2, e2, h2, _⟩ Q q => ⟨p, p2, xs, ys, e1, e2, h1, h2, small hl, fun l hl' => q _ _ (Gv.new g.1 hl') ⟨l, rfl, upd_same, off g.1 hl'⟩⟩
theorem ev_catA (ha : EvP R ta σ H (TupN R xs)) (hb : EvP R tb σ H (TupN R ys)) (hl : xs.length + ys.length ≤ 1000) : EvP R (tOp (rCatA K) ta tb) σ H (TupN R (xs ++ ys)) :=
  ev_op stb_tupN ha hb fun x y H1 g ⟨p, e1, h1, d1⟩ ⟨p2, e2, h2, d2⟩ Q q => ⟨p, p2, xs, ys, e1, e2, .inl (.inl h1), .inl (.inl h2), small hl,
    fun e => q _ _ (Gv.refl g.1) ⟨p2, rfl, by rw [e]; exact h2, d2⟩, fun _ e => q _ _ (Gv.refl g.1) ⟨p, rfl, by rw [e, List.append_nil]; exact h1, d1⟩, fun _ _ l hl' => q _ _ (Gv.new g.1 hl') ⟨l, rfl, upd_same, off g.1 hl'⟩⟩
theorem eo_none : EvO R tNoPart σ H none := fun H1 g Q q => q H1 g.at
theorem eo_some {i : Int} (h : EvP R te σ H (Is (.int i))) : EvO R (tPart te) σ H (some i) := fun H1 g Q q => h H1 g _ fun v H2 g2 e => ⟨i, e, q H2 g2⟩
theorem cut_whole {lo hi : Option Int} (h : HT.sIx xs.length 0 lo = 0 ∧ HT.sIx xs.length xs.length hi = xs.length) : cutV xs lo hi = xs := by
  unfold cutV
  rw [h.1, h.2]
  simp
theorem ev_slA {lo hi : Option Int} (ha : EvP R ta σ H (TupN R xs)) (hl : EvO R to1 σ H lo) (hh : EvO R to2 σ H hi) : EvP R (tSl (rSlA K) ta to1 to2) σ H (TupN R (cutV xs lo hi)) := fun H0 g0 Q q =>
  ha H0 g0 _ fun x H1 g1 px => hl H1 (g0.trans g1) _ fun H2 g2 => hh H2 (g0.trans (g1.trans g2)) _ fun H3 g3 => by
    obtain ⟨p, e, h, hd⟩ := stb_tupN x _ _ (g2.trans g3).1 px
    refine ⟨p, xs, e, .inl (.inl h), fun w => q _ _ (g1.trans (g2.trans g3)) ⟨p, rfl, by rw [cut_whole w]; exact h, hd⟩, fun _ l hl' => q _ _ ((g1.trans (g2.trans g3)).trans (Gv.new g3.1.1 hl')) ⟨l, rfl, upd_same, off g3.1.1 hl'⟩⟩
theorem ev_slL {lo hi : Option Int} (ha : EvP R ta σ H (IsL K R xs)) (hl : EvO R to1 σ H lo) (hh : EvO R to2 σ H hi) : EvP R (tSl (rSlL K) ta to1 to2) σ H (LstN R (cutV xs lo hi)) := fun H0 g0 Q q =>
  ha H0 g0 _ fun x H1 g1 px => hl H1 (g0.trans g1) _ fun H2 g2 => hh H2 (g0.trans (g1.trans g2)) _ fun H3 g3 => by
    obtain ⟨p, e, h⟩ := stb_isL x _ _ (g2.trans g3).1 px
    exact ⟨p, xs, e, h.now g3.1.1, fun l hl' => q _ _ ((g1.trans (g2.trans g3)).trans (Gv.new g3.1.1 hl')) ⟨l, rfl, upd_same, off g3.1.1 hl'⟩⟩
theorem ev_slE {φ : List V → Prop} {lo hi : Option Int} (ha : EvP R ta σ H (fun u H => ∃ xs, φ xs ∧ LstN R xs u H)) (hl : EvO R to1 σ H lo) (hh : EvO R to2 σ H hi) : EvP R (tSl (rSlL K) ta to1 to2) σ H (fun u H => ∃ xs, φ xs ∧ LstN R (cutV xs lo hi) u H) := fun H0 g0 Q q =>
  ha H0 g0 _ fun x H1 g1 ⟨xs, f, px⟩ => hl H1 (g0.trans g1) _ fun H2 g2 => hh H2 (g0.trans (g1.trans g2)) _ fun H3 g3 => by
    obtain ⟨p, e, h, _⟩ := stb_lstN x _ _ (g2.trans g3).1 px
    exact ⟨p, xs, e, .inl (.inl h), fun l hl' => q _ _ ((g1.trans (g2.trans g3)).trans (Gv.new g3.1.1 hl')) ⟨xs, f, l, rfl, upd_same, off g3.1.1 hl'⟩⟩
theorem ev_revL (ha : EvP R ta σ H (IsL K R xs)) : EvP R (tRevL K ta) σ H (LstN R xs.reverse) := fun H0 g0 Q q =>
  ha H0 g0 _ fun x H1 g1 ⟨p, e, h⟩ => ⟨p, xs, e, h.now g1.1.1, fun l hl' => q _ _ (g1.trans (Gv.new g1.1.1 hl')) ⟨l, rfl, upd_same, off g1.1.1 hl'⟩⟩
theorem ev_cntB {bs : List Bool} {k : Bool} (ho : EvP R te σ H (LstN R (bs.map V.bl))) (htk : EvP R ta σ H (Is (.bl k))) : EvP R (tBM K "list" (rCntB K) te (tCons ta tNil)) σ H (Is (.int (bs.count k : Nat))) := fun H0 g0 Q q =>
  ho H0 g0 _ fun x H1 g1 hx => by
    obtain ⟨p, e, h, hd⟩ := hx
    cases e
    refine ⟨.inl ⟨rfl, _, .inl (.inl h)⟩, htk H1 (g0.trans g1) _ fun u H2 g2 ek => ?_⟩
    cases ek
    exact ⟨p, bs, k, rfl, rfl, .inl (.inl (g2.1.2 p _ h hd.1 hd.2)), q _ H2 (g1.trans g2) rfl⟩
theorem ew_zip {n : Nat} (h : EvA R t σ H [IsL K R xs, IsL K R ys]) (hn : n = min xs.length ys.length) : EvW R (iZip K t) σ H n (YPair (fun i => xs[i]?) (fun i => ys[i]?)) := fun H1 a Z k => h H1 a _ fun us H2 a2 ps => by
  match us, ps with
  | [u1, u2], ⟨⟨p, e1, h1⟩, ⟨p2, e2, h2⟩, _⟩ =>
    cases e1; cases e2
    exact ⟨p, p2, xs, ys, rfl, h1.now a2.1.1, h2.now a2.1.1, k _ H2 (fun H => SqL K H p xs ∧ SqL K H p2 ys) a2 (walk_zip hn) fun H' g => ⟨h1 H' g, h2 H' g⟩⟩
theorem s_retL {D : Ends} {Ps : List VP} (h : EvA R t σ H Ps) (g : Gr R H Hc) (k : ∀ us H1, Gr R H H1 → PsOk Ps us H1 → us.length ≤ 1000 ∧ ∀ p, H1 p = none → D.rt (.ref p) (upd H1 p (.lst us))) : tRet (tLst t) D σ Hc := h Hc g _ fun us H1 g1 ps => ⟨small (k us H1 (g.trans g1) ps).1, (k us H1 (g.trans g1) ps).2⟩
theorem s_retT {D : Ends} {Ps : List VP} (h : EvA R t σ H Ps) (g : Gr R H Hc) (k : ∀ us H1, Gr R H H1 → PsOk Ps us H1 → us.length ≤ 1000 ∧ ∀ p, H1 p = none → D.rt (.ref p) (upd H1 p (.tup us))) : tRet (tTup t) D σ Hc := h Hc g _ fun us H1 g1 ps => ⟨small (k us H1 (g.trans g1) ps).1, (k us H1 (g.trans g1) ps).2⟩
theorem s_par {D : Ends} {i j : Nat} {P1 P2 : VP} (h : EvA R t σ H [P1, P2]) (g : Gr R H Hc) (k : ∀ v u H1, Gr R H H1 → Gv R Hc H1 → P1 v H1 → P2 u H1 → D.nx ((σ.set i (some v)).set j (some u)) H1) : tPar i j t D σ Hc := h Hc g _ fun us H1 g1 ps => by
  match us, ps with
  | [v, u], ⟨p1, p2, _⟩ => exact ⟨v, u, rfl, k v u H1 (g.trans g1) g1 p1 p2⟩
theorem ev_listOf (h : EvP R ta σ H (fun u H => ∃ p, u = .ref p ∧ (SqL K H p xs ∨ SqT K H p xs))) : EvP R (tCB (fun us H Q => ∃ p zs, us = [.ref p] ∧ (SqL K H p zs ∨ SqT K H p zs) ∧ ∀ l, H l = none → Q (.ref l) (upd H l (.lst zs))) (tCons ta tNil)) σ H (LstN R xs) := fun H0 g0 Q q =>
  h H0 g0 _ fun x H1 g1 ⟨p, e, hp⟩ => ⟨p, xs, by rw [e], hp, fun l hl' => q _ _ (g1.trans (Gv.new g1.1.1 hl')) ⟨l, rfl, upd_same, off g1.1.1 hl'⟩⟩
/-- a call that draws -/
theorem ev_dc {a b : Addr} (I : IsDeal R a b) {sp : Sp} {E : XK} {Ps : List VP} {P : VP} (h : EvA R t σ H Ps)
    (hs : ∀ vs H1, Gr R H H1 → PsOk Ps vs H1 → DealJ a b H1 → ∀ Q : VK, (∀ v H2, DealJ a b H2 → Rest a b H1 H2 → P v H2 → Q v H2) → sp vs H1 Q E) : EvP R (tCall sp [] E t) σ H P :=
  ev_call h fun vs H1 g ps Q q => by
    rw [List.append_nil]
    exact hs vs H1 g ps ((I.j H1).mp g.1).1 Q fun v H2 d r p => q v H2 (I.gv g.1 d r) p
end
theorem deal_gr {a b : Addr} {H H' : Hp} (d : DealJ a b H') (r : Rest a b H H') : Gr (DealR a b) H H' := ⟨d, fun x o e n _ => r x o (fun z => n (by rw [z]; exact List.mem_cons_self)) (fun z => n (by rw [z]; exact List.mem_cons_of_mem _ List.mem_cons_self)) e⟩
theorem gr_deal {a b : Addr} {H H' : Hp} (g : Gr (DealR a b) H H') : DealJ a b H' ∧ Rest a b H H' := ⟨g.1, fun x o n1 n2 e => g.2 x o e (by show x ∉ [a, b]; simp [n1, n2]) List.not_mem_nil⟩
theorem off_deal {a b p : Addr} (n1 : p ≠ a) (n2 : p ≠ b) : p ∉ (DealR a b).D ∧ p ∉ (DealR a b).h := ⟨by show p ∉ [a, b]; simp [n1, n2], List.not_mem_nil⟩
theorem deal_off {a b p : Addr} (h : p ∉ (DealR a b).D ∧ p ∉ (DealR a b).h) : p ≠ a ∧ p ≠ b := by
  have h1 : p ∉ [a, b] := h.1
  simp at h1
  exact h1
theorem seq_ix {n : Nat} {i : Int} (h0 : 0 ≤ i) (h1 : i < (n : Int)) : seqIndex? i n = some i.toNat := by
  show (if (decide (0 ≤ (if i < 0 then i + (n : Int) else i)) && decide ((if i < 0 then i + (n : Int) else i) < (n : Int))) = true then some (if i < 0 then i + (n : Int) else i).toNat else none) = some i.toNat
  rw [if_neg (show ¬ i < 0 by omega), decide_eq_true h0, decide_eq_true h1]
  rfl
/-! ### data of texts -/
def dStrs (zs : List Str) : PyData := .list (zs.map PyData.str)
theorem eqv_nilS (zs : List Str) : PyData.eqv (dStrs zs) (.list []) = zs.isEmpty := by cases zs <;> rfl
theorem dpAll_strs {K : PySem.W.Frag} {H : Hp} : ∀ zs : List Str, DpAll K H (zs.map V.str) (zs.map PyData.str)
  | [] => .nil
  | z :: zs => .cons (.str z) (dpAll_strs zs)
theorem canLay_strs : ∀ zs : List Str, (∀ z, z ∈ zs → PyData.strOk z = true) → PyData.canLayAll0 (zs.map PyData.str) = true
  | [], _ => rfl
  | z :: zs, h => by
    show (PyData.strOk z && PyData.canLayAll0 (zs.map PyData.str)) = true
    rw [canLay_strs zs fun y hy => h y (List.mem_cons_of_mem _ hy), h z List.mem_cons_self]
    rfl
theorem depth_strs : ∀ zs : List Str, (dStrs zs).depth ≤ 1
  | [] => by decide
  | z :: zs => by
    have ih := depth_strs zs
    simp only [dStrs, List.map_cons, PyData.depth, PyData.depthAll] at ih ⊢
    omega
theorem shaped_strs (zs : List Str) (h : ∀ z, z ∈ zs → PyData.strOk z = true) : SeqAt.shaped (dStrs zs) = true := by
  have h1 : (dStrs zs).canLay0 = true := canLay_strs zs h
  have h2 := depth_strs zs
  unfold SeqAt.shaped
  rw [h1, decide_eq_true (by omega)]
  rfl
theorem ev_strsD {K : PySem.W.Frag} {R : Res} {σ : L2.St} {H : Hp} {te : TE} {zs : List Str} (h : EvP R te σ H (LstN R (zs.map V.str))) : EvP R te σ H (Rp K R (dStrs zs)) := ev_imp h fun u H' g ⟨p, e, hp, hd⟩ => e ▸ fun H2 g2 => .lst (.inl (.inl (g2.2 p _ hp hd.1 hd.2))) (dpAll_strs zs)
end Fk

/-! Forkpolls: for over range without a heap of facts; lists of things of which something is known. -/
namespace Fk
open PySem PySem.Spec PyProof.Rows L2
section
variable {K : PySem.W.Frag} {R : Res} {σ : L2.St} {H Hc H' : Hp} {ta tb te : TE} {t : TA} {P : VP} {Ps : List VP} {xs : List V}
theorem s_rng {tu : TS} {D : Ends} {g : TG} {m : Int} (h : EvA R t σ H [Is (.int m)]) (hm : 0 ≤ m ∧ m ≤ 100000) (gc : Gr R H Hc) (Pv : Nat → L2.St → Hp → Prop) (h0 : ∀ H1, Gr R H H1 → Gv R Hc H1 → Pv 0 σ H1)
    (hs : ∀ (i : Nat) σ' H', i < m.toNat → Pv i σ' H' → g (.int (i : Int)) σ' H' fun σ2 H3 => tu { D with nx := Pv (i + 1), ct := Pv (i + 1), bk := D.nx } σ2 H3) (he : ∀ σ' H', Pv m.toNat σ' H' → D.nx σ' H') :
    tFor (iRng1 t) g tu D σ Hc := h Hc gc _ fun vs H2 a2 ps => by
  have e := psOk1 ps
  refine ⟨m, e, by omega, by omega, ?_⟩
  refine for_it (walk_range (lo := 0) (n := m.toNat)) Pv (h0 H2 (gc.trans a2) a2) (fun _ _ _ _ _ => True.intro) (fun i x σ' H' H'' hi p y => ?_) he
  obtain ⟨y1, y2⟩ := y
  subst y1
  have y3 : x = .int (i : Int) := y2.trans (congrArg V.int (Int.zero_add _))
  subst y3
  exact hs i σ' _ hi p
theorem psOk_stb : ∀ {Ps : List VP} {xs : List V}, (∀ P, P ∈ Ps → Stb R P) → Gr R H H' → PsOk Ps xs H → PsOk Ps xs H'
  | [], [], _, _, _ => True.intro
  | P :: Ps, x :: xs, h, g, ⟨h1, h2⟩ => ⟨h P List.mem_cons_self x H H' g h1, psOk_stb (fun Q hQ => h Q (List.mem_cons_of_mem _ hQ)) g h2⟩
theorem psOk_get : ∀ {Ps : List VP} {xs : List V} {i : Nat} {P : VP}, PsOk Ps xs H → Ps[i]? = some P → ∃ x, xs[i]? = some x ∧ P x H
  | P :: Ps, x :: xs, 0, _, ⟨h1, _⟩, e => by
    cases e
    exact ⟨x, rfl, h1⟩
  | P :: Ps, x :: xs, i + 1, Q, ⟨_, h2⟩, e => psOk_get (Ps := Ps) (xs := xs) (i := i) h2 e
  | [], _, _, _, _, e => by simp at e
theorem psOk_ex {α β : Type} {φ : β → Prop} {S : β → VP} : ∀ {l : List α} {xs : List V}, PsOk (l.map fun _ => (fun u H => ∃ r, φ r ∧ S r u H)) xs H → ∃ rs : List β, rs.length = l.length ∧ (∀ r, r ∈ rs → φ r) ∧ PsOk (rs.map S) xs H
  | [], [], _ => ⟨[], rfl, fun _ h => absurd h List.not_mem_nil, True.intro⟩
  | _ :: l, x :: xs, ⟨⟨r, f, h1⟩, h2⟩ => by
    obtain ⟨rs, e, k, h⟩ := psOk_ex (l := l) h2
    refine ⟨r :: rs, congrArg Nat.succ e, fun s hs => ?_, h1, h⟩
    rcases List.mem_cons.mp hs with q | q
    · rw [q]; exact f
    · exact k s q
theorem psOk_tup_upd {α : Type} {S : α → List V} {p : Addr} {ys : List V} {o : HO} (hp : H p = some (.lst ys)) : ∀ {rs : List α} {xs : List V}, PsOk (rs.map fun r => TupN R (S r)) xs H → PsOk (rs.map fun r => TupN R (S r)) xs (upd H p o)
  | [], [], _ => True.intro
  | r :: rs, x :: xs, ⟨⟨q, e, h, hd⟩, h2⟩ => ⟨⟨q, e, by
      have : q ≠ p := fun z => by rw [z, hp] at h; cases h
      rw [upd_ne this]
      exact h, hd⟩, psOk_tup_upd hp h2⟩
theorem gl_map {β : Type} (d : β) (S : β → VP) : ∀ rs : List β, gl rs.length (fun _ => true) (fun i => S (rs.getD i d)) = rs.map S := fun rs => by
  unfold gl
  rw [filter_yes]
  apply List.ext_getElem?
  intro i
  rw [List.getElem?_map, List.getElem?_map]
  by_cases hi : i < rs.length
  · rw [List.getElem?_range hi, List.getElem?_eq_getElem hi]
    show some (S (rs.getD i d)) = some (S rs[i])
    rw [List.getD_eq_getElem?_getD, List.getElem?_eq_getElem hi]
    rfl
  · rw [List.getElem?_eq_none (by rw [List.length_range]; omega), List.getElem?_eq_none (by omega)]
    rfl
/-- an item of a list of one's own -/
theorem ev_item {k : Nat} {p : Addr} {x : V} {i : Nat} (hv : σ[k]? = some (some (.ref p))) (hp : H p = some (.lst xs)) (hd : p ∉ R.D ∧ p ∉ R.h) (hx : xs[i]? = some x) (hi : EvP R tb σ H (Is (.int (i : Int)))) (s : Stb R P) (h : P x H) : EvP R (tOp (rIxL K) (tVar k) tb) σ H P :=
  ev_imp (ev_ixL (ev_L (ev_varLN hv hp hd)) hi (atI_nat hx)) fun u H' g e => by
    cases e
    exact s x H H' g h
theorem ev_varP {k : Nat} {x : V} (hv : σ[k]? = some (some x)) (s : Stb R P) (h : P x H) : EvP R (tVar k) σ H P := ev_var hv fun H' g => s x H H' g h
theorem tupN_add {p : Addr} {vs : List V} {u : V} (h : TupN (R.add p) vs u H) : TupN R vs u H := let ⟨q, e, hq, hd⟩ := h; ⟨q, e, hq, hd.1, fun z => hd.2 (List.mem_cons_of_mem _ z)⟩
theorem tupN_into {p : Addr} {vs : List V} {u : V} (hn : H p = none) (h : TupN R vs u H) : TupN (R.add p) vs u H := let ⟨q, e, hq, hd⟩ := h; ⟨q, e, hq, hd.1, fun z => by
  rcases List.mem_cons.mp z with z | z
  · rw [z, hn] at hq; cases hq
  · exact hd.2 z⟩
end
end Fk

namespace Fk
open PySem PySem.Spec PyProof.Rows L2
def topS (i : Nat) : Stmt := PySem.Challenge.pw_forkpolls_k02_rows_made.main.body.getD i (.Pass ⟨0, 0, 0, 0⟩)
abbrev s_law_deal : Stmt := (topS 23)
theorem sc_law_deal : FnScope ["_law_script", "_law_base", "_law_cells", "_law_mixed_here", "_law_cell"] ["_law_script", "_law_base"] (defScope s_law_deal) := ⟨rfl, rfl, rfl, by decide +kernel, rfl, by decide +kernel, by decide +kernel⟩
abbrev s_law_draw : Stmt := (topS 24)
theorem sc_law_draw : FnScope ["_law_deal_here", "_law_many", "_law_left"] ["_law_deal_here", "_law_many"] (defScope s_law_draw) := ⟨rfl, rfl, rfl, by decide +kernel, rfl, by decide +kernel, by decide +kernel⟩
abbrev s_law_pick : Stmt := (topS 25)
theorem sc_law_pick : FnScope ["_law_deal_here", "_law_some"] ["_law_deal_here", "_law_some"] (defScope s_law_pick) := ⟨rfl, rfl, rfl, by decide +kernel, rfl, by decide +kernel, by decide +kernel⟩
abbrev s_law_mixed : Stmt := (topS 26)
theorem sc_law_mixed : FnScope ["_law_deal_here", "_law_some", "_law_left", "_law_found"] ["_law_deal_here", "_law_some"] (defScope s_law_mixed) := ⟨rfl, rfl, rfl, by decide +kernel, rfl, by decide +kernel, by decide +kernel⟩
abbrev s_law_names : Stmt := (topS 27)
theorem sc_law_names : FnScope ["_law_deal_here", "_law_many", "_law_some"] ["_law_deal_here", "_law_many"] (defScope s_law_names) := ⟨rfl, rfl, rfl, by decide +kernel, rfl, by decide +kernel, by decide +kernel⟩
abbrev s_law_kinds : Stmt := (topS 28)
theorem sc_law_kinds : FnScope [] [] (defScope s_law_kinds) := ⟨rfl, rfl, rfl, by decide +kernel, rfl, by decide +kernel, by decide +kernel⟩
abbrev s_law_any_row : Stmt := (topS 29)
theorem sc_law_any_row : FnScope ["_law_deal_here", "_law_marks", "_law_form", "_law_add", "_law_some", "_law_left", "_law_right"] ["_law_deal_here", "_law_marks"] (defScope s_law_any_row) := ⟨rfl, rfl, rfl, by decide +kernel, rfl, by decide +kernel, by decide +kernel⟩
abbrev s_law_bent : Stmt := (topS 30)
theorem sc_law_bent : FnScope ["_law_deal_here", "_law_row", "_law_marks", "_law_at"] ["_law_deal_here", "_law_row", "_law_marks"] (defScope s_law_bent) := ⟨rfl, rfl, rfl, by decide +kernel, rfl, by decide +kernel, by decide +kernel⟩
abbrev s_law_row_text : Stmt := (topS 31)
theorem sc_law_row_text : FnScope ["_law_row", "_law_some", "_law_part"] ["_law_row"] (defScope s_law_row_text) := ⟨rfl, rfl, rfl, by decide +kernel, rfl, by decide +kernel, by decide +kernel⟩
abbrev s_law_row_of : Stmt := (topS 32)
theorem sc_law_row_of : FnScope ["_law_row"] ["_law_row"] (defScope s_law_row_of) := ⟨rfl, rfl, rfl, by decide +kernel, rfl, by decide +kernel, by decide +kernel⟩
abbrev s_law_attributes : Stmt := (topS 33)
theorem sc_law_attributes : FnScope ["_law_row"] ["_law_row"] (defScope s_law_attributes) := ⟨rfl, rfl, rfl, by decide +kernel, rfl, by decide +kernel, by decide +kernel⟩
abbrev s_law : Stmt := (topS 34)
theorem sc_law : FnScope ["_law_script", "_law_deal_here", "_law_turn", "_law_marks", "_law_some", "_law_made", "_law_row", "_law_one", "_law_at", "_law_other", "_law_is_same", "_law_more"] ["_law_script"] (defScope s_law) := ⟨rfl, rfl, rfl, by decide +kernel, rfl, by decide +kernel, by decide +kernel⟩
abbrev s_is_integer : Stmt := (topS 3)
theorem sc_is_integer : FnScope ["value"] ["value"] (defScope s_is_integer) := ⟨rfl, rfl, rfl, by decide +kernel, rfl, by decide +kernel, by decide +kernel⟩
abbrev s_is_name : Stmt := (topS 4)
theorem sc_is_name : FnScope ["value", "letter"] ["value"] (defScope s_is_name) := ⟨rfl, rfl, rfl, by decide +kernel, rfl, by decide +kernel, by decide +kernel⟩
abbrev s_is_mark_or : Stmt := (topS 18)
theorem sc_is_mark_or : FnScope ["value", "words"] ["value", "words"] (defScope s_is_mark_or) := ⟨rfl, rfl, rfl, by decide +kernel, rfl, by decide +kernel, by decide +kernel⟩
abbrev s_is_added : Stmt := (topS 19)
theorem sc_is_added : FnScope ["value"] ["value"] (defScope s_is_added) := ⟨rfl, rfl, rfl, by decide +kernel, rfl, by decide +kernel, by decide +kernel⟩
abbrev s_refuse_wrong : Stmt := (topS 17)
theorem sc_refuse_wrong : FnScope ["judged", "word", "right"] ["judged"] (defScope s_refuse_wrong) := ⟨rfl, rfl, rfl, by decide +kernel, rfl, by decide +kernel, by decide +kernel⟩
abbrev s_Row_init : Stmt := (inClass (topS 13) 0)
theorem sc_Row_init : FnScope ["self", "words"] ["self", "words"] (defScope s_Row_init) := ⟨rfl, rfl, rfl, by decide +kernel, rfl, by decide +kernel, by decide +kernel⟩
abbrev s_Row_eq : Stmt := (inClass (topS 13) 1)
theorem sc_Row_eq : FnScope ["self", "other"] ["self", "other"] (defScope s_Row_eq) := ⟨rfl, rfl, rfl, by decide +kernel, rfl, by decide +kernel, by decide +kernel⟩
abbrev s_Row_str : Stmt := (inClass (topS 13) 2)
theorem sc_Row_str : FnScope ["self"] ["self"] (defScope s_Row_str) := ⟨rfl, rfl, rfl, by decide +kernel, rfl, by decide +kernel, by decide +kernel⟩
abbrev s_Step_init : Stmt := (inClass (topS 14) 0)
theorem sc_Step_init : FnScope ["self", "kind", "old", "then", "add"] ["self", "kind", "old", "then", "add"] (defScope s_Step_init) := ⟨rfl, rfl, rfl, by decide +kernel, rfl, by decide +kernel, by decide +kernel⟩
abbrev s_Join_init : Stmt := (inClass (topS 15) 0)
theorem sc_Join_init : FnScope ["self", "here", "there", "then", "add"] ["self", "here", "there", "then", "add"] (defScope s_Join_init) := ⟨rfl, rfl, rfl, by decide +kernel, rfl, by decide +kernel, by decide +kernel⟩
abbrev s_Part_init : Stmt := (inClass (topS 16) 0)
theorem sc_Part_init : FnScope ["self", "old", "left", "right", "add", "more"] ["self", "old", "left", "right", "add", "more"] (defScope s_Part_init) := ⟨rfl, rfl, rfl, by decide +kernel, rfl, by decide +kernel, by decide +kernel⟩
structure Ads where
  f_is_integer : Addr
  f_is_name : Addr
  f_refuse_wrong : Addr
  f_is_mark_or : Addr
  f_is_added : Addr
  Row : Addr
  Step : Addr
  Join : Addr
  Part : Addr
  f_Step_init : Addr
  f_Join_init : Addr
  f_Part_init : Addr
  f_Row_eq : Addr
  f_Row_str : Addr
  f_Row_init : Addr
  KEYWORDS : Addr
  KINDS : Addr
  f_law_deal : Addr
  f_law_draw : Addr
  f_law_pick : Addr
  f_law_mixed : Addr
  f_law_names : Addr
  f_law_kinds : Addr
  f_law_any_row : Addr
  f_law_bent : Addr
  f_law_row_text : Addr
  f_law_row_of : Addr
  f_law_attributes : Addr
  f_law : Addr
structure Tx (A : Ads) (K : PySem.W.Frag) (mg : Str → Option Value) : Prop where
  z_isinstance : mg "isinstance" = none
  z_int : mg "int" = none
  z_bool : mg "bool" = none
  z_str : mg "str" = none
  z_len : mg "len" = none
  z_all : mg "all" = none
  z_tuple : mg "tuple" = none
  z_range : mg "range" = none
  z_zip : mg "zip" = none
  z_list : mg "list" = none
  z_abs : mg "abs" = none
  z_repr : mg "repr" = none
  d_is_integer : mg "is_integer" = some (.ref A.f_is_integer) ∧ ∃ fd, Fun K "is_integer" "is_integer" s_is_integer A.f_is_integer fd
  d_is_name : mg "is_name" = some (.ref A.f_is_name) ∧ ∃ fd, Fun K "is_name" "is_name" s_is_name A.f_is_name fd
  d_refuse_wrong : mg "_refuse_wrong" = some (.ref A.f_refuse_wrong) ∧ ∃ fd, Fun K "_refuse_wrong" "_refuse_wrong" s_refuse_wrong A.f_refuse_wrong fd
  d_is_mark_or : mg "_is_mark_or" = some (.ref A.f_is_mark_or) ∧ ∃ fd, Fun K "_is_mark_or" "_is_mark_or" s_is_mark_or A.f_is_mark_or fd
  d_is_added : mg "_is_added" = some (.ref A.f_is_added) ∧ ∃ fd, Fun K "_is_added" "_is_added" s_is_added A.f_is_added fd
  g_Row : mg "Row" = some (.ref A.Row)
  g_Step : mg "Step" = some (.ref A.Step)
  g_Join : mg "Join" = some (.ref A.Join)
  g_Part : mg "Part" = some (.ref A.Part)
  m_Step_init : PySem.W.findIn K (.ref A.Step) "__init__" = some (some (.ref A.f_Step_init))
  i_f_Step_init : PySem.W.isFn K (.ref A.f_Step_init) = true
  d_Step_init : ∃ fd, Fun K "__init__" "Step.__init__" s_Step_init A.f_Step_init fd
  m_Join_init : PySem.W.findIn K (.ref A.Join) "__init__" = some (some (.ref A.f_Join_init))
  i_f_Join_init : PySem.W.isFn K (.ref A.f_Join_init) = true
  d_Join_init : ∃ fd, Fun K "__init__" "Join.__init__" s_Join_init A.f_Join_init fd
  m_Part_init : PySem.W.findIn K (.ref A.Part) "__init__" = some (some (.ref A.f_Part_init))
  i_f_Part_init : PySem.W.isFn K (.ref A.f_Part_init) = true
  d_Part_init : ∃ fd, Fun K "__init__" "Part.__init__" s_Part_init A.f_Part_init fd
  m_Step_eq : PySem.W.findIn K (.ref A.Step) "__eq__" = some (some (.ref A.f_Row_eq))
  i_f_Row_eq : PySem.W.isFn K (.ref A.f_Row_eq) = true
  d_Row_eq : ∃ fd, Fun K "__eq__" "Row.__eq__" s_Row_eq A.f_Row_eq fd
  m_Join_eq : PySem.W.findIn K (.ref A.Join) "__eq__" = some (some (.ref A.f_Row_eq))
  m_Part_eq : PySem.W.findIn K (.ref A.Part) "__eq__" = some (some (.ref A.f_Row_eq))
  m_Step_str : PySem.W.findIn K (.ref A.Step) "__str__" = some (some (.ref A.f_Row_str))
  i_f_Row_str : PySem.W.isFn K (.ref A.f_Row_str) = true
  d_Row_str : ∃ fd, Fun K "__str__" "Row.__str__" s_Row_str A.f_Row_str fd
  m_Join_str : PySem.W.findIn K (.ref A.Join) "__str__" = some (some (.ref A.f_Row_str))
  m_Part_str : PySem.W.findIn K (.ref A.Part) "__str__" = some (some (.ref A.f_Row_str))
  m_Row_init : PySem.W.findIn K (.ref A.Row) "__init__" = some (some (.ref A.f_Row_init))
  i_f_Row_init : PySem.W.isFn K (.ref A.f_Row_init) = true
  d_Row_init : ∃ fd, Fun K "__init__" "Row.__init__" s_Row_init A.f_Row_init fd
  g_KEYWORDS : mg "KEYWORDS" = some (.ref A.KEYWORDS)
  t_KEYWORDS : ∀ H, SqT K H A.KEYWORDS [.str "any", .str "by", .str "one", .str "same", .str "to"]
  g_KINDS : mg "KINDS" = some (.ref A.KINDS)
  t_KINDS : ∀ H, SqT K H A.KINDS [.str "yes", .str "no", .str "late yes", .str "late no", .str "word", .str "strike", .str "back", .str "cut"]
  o_Row : OwnC K A.Row
  o_Step : OwnC K A.Step
  o_Join : OwnC K A.Join
  o_Part : OwnC K A.Part
  rowOff : PySem.W.findCls K (.ref A.Row) (.type "type") "__init__" = some (.val (.ref A.f_Row_init))
  rowRd : PySem.W.readsIn K A.Row (.type "type") = true
  rowGa : PySem.W.specialIn K (.ref A.Row) "__getattribute__" = some (some (.builtin "type.__getattribute__"))
  rowKeep : PySem.W.keepIn K (.ref A.f_Row_init) = true
  ogt : PySem.W.specialIn K (.builtin "object.__class__") "__get__" = some (some (.builtin "getset_descriptor.__get__"))
  otk : PySem.W.takesIn K (.builtin "object.__class__") = some true
  sSR : PySem.W.subIn K (.ref A.Step) (.ref A.Row) = some true
  sJR : PySem.W.subIn K (.ref A.Join) (.ref A.Row) = some true
  sPR : PySem.W.subIn K (.ref A.Part) (.ref A.Row) = some true
  sSJ : PySem.W.subIn K (.ref A.Step) (.ref A.Join) = some false
  sSP : PySem.W.subIn K (.ref A.Step) (.ref A.Part) = some false
  sJS : PySem.W.subIn K (.ref A.Join) (.ref A.Step) = some false
  sJP : PySem.W.subIn K (.ref A.Join) (.ref A.Part) = some false
  sPS : PySem.W.subIn K (.ref A.Part) (.ref A.Step) = some false
  sPJ : PySem.W.subIn K (.ref A.Part) (.ref A.Join) = some false
  ssR : PySem.W.subIn K (.type "str") (.ref A.Row) = some false
  ssS : PySem.W.subIn K (.type "str") (.ref A.Step) = some false
  ssJ : PySem.W.subIn K (.type "str") (.ref A.Join) = some false
  ssP : PySem.W.subIn K (.type "str") (.ref A.Part) = some false
  stR : PySem.W.subIn K (.type "tuple") (.ref A.Row) = some false
  stS : PySem.W.subIn K (.type "tuple") (.ref A.Step) = some false
  stJ : PySem.W.subIn K (.type "tuple") (.ref A.Join) = some false
  stP : PySem.W.subIn K (.type "tuple") (.ref A.Part) = some false
  na_Step_words : NoAttr K A.Step "words"
  na_Step_kind : NoAttr K A.Step "kind"
  na_Step_old : NoAttr K A.Step "old"
  na_Step_then : NoAttr K A.Step "then"
  na_Step_add : NoAttr K A.Step "add"
  na_Join_words : NoAttr K A.Join "words"
  na_Join_here : NoAttr K A.Join "here"
  na_Join_there : NoAttr K A.Join "there"
  na_Join_then : NoAttr K A.Join "then"
  na_Join_add : NoAttr K A.Join "add"
  na_Part_words : NoAttr K A.Part "words"
  na_Part_old : NoAttr K A.Part "old"
  na_Part_left : NoAttr K A.Part "left"
  na_Part_right : NoAttr K A.Part "right"
  na_Part_add : NoAttr K A.Part "add"
  na_Part_more : NoAttr K A.Part "more"
  d_law_deal : mg "_law_deal" = some (.ref A.f_law_deal) ∧ ∃ fd, Fun K "_law_deal" "_law_deal" s_law_deal A.f_law_deal fd
  d_law_draw : mg "_law_draw" = some (.ref A.f_law_draw) ∧ ∃ fd, Fun K "_law_draw" "_law_draw" s_law_draw A.f_law_draw fd
  d_law_pick : mg "_law_pick" = some (.ref A.f_law_pick) ∧ ∃ fd, Fun K "_law_pick" "_law_pick" s_law_pick A.f_law_pick fd
  d_law_mixed : mg "_law_mixed" = some (.ref A.f_law_mixed) ∧ ∃ fd, Fun K "_law_mixed" "_law_mixed" s_law_mixed A.f_law_mixed fd
  d_law_names : mg "_law_names" = some (.ref A.f_law_names) ∧ ∃ fd, Fun K "_law_names" "_law_names" s_law_names A.f_law_names fd
  d_law_kinds : mg "_law_kinds" = some (.ref A.f_law_kinds) ∧ ∃ fd, Fun K "_law_kinds" "_law_kinds" s_law_kinds A.f_law_kinds fd
  d_law_any_row : mg "_law_any_row" = some (.ref A.f_law_any_row) ∧ ∃ fd, Fun K "_law_any_row" "_law_any_row" s_law_any_row A.f_law_any_row fd
  d_law_bent : mg "_law_bent" = some (.ref A.f_law_bent) ∧ ∃ fd, Fun K "_law_bent" "_law_bent" s_law_bent A.f_law_bent fd
  d_law_row_text : mg "_law_row_text" = some (.ref A.f_law_row_text) ∧ ∃ fd, Fun K "_law_row_text" "_law_row_text" s_law_row_text A.f_law_row_text fd
  d_law_row_of : mg "_law_row_of" = some (.ref A.f_law_row_of) ∧ ∃ fd, Fun K "_law_row_of" "_law_row_of" s_law_row_of A.f_law_row_of fd
  d_law_attributes : mg "_law_attributes" = some (.ref A.f_law_attributes) ∧ ∃ fd, Fun K "_law_attributes" "_law_attributes" s_law_attributes A.f_law_attributes fd
  d_law : mg "law" = some (.ref A.f_law) ∧ ∃ fd, Fun K "law" "law" s_law A.f_law fd

section
variable {P : Program} {w : World} {A : Ads} {K : PySem.W.Frag} {mg : Str → Option Value} {base : Heap}
/-! ### checks -/
def spIsInt : Sp := fun vs H Q _ => ∃ v, vs = [v] ∧ flatV v = true ∧ ∀ H', Same H H' → Q (.bl (isI v)) H'
theorem ok_is_integer (T : Tx A K mg) {f : Addr} {fd : FuncData} (F : Fun K "is_integer" "is_integer" s_is_integer f fd) : FnOk P w K mg base CX0 1 f fd ["value"] spIsInt := by
  refine F.ok sc_is_integer (fun vs H Q E h => ?_) (fun cdv A' outer s H vs Q E hr h => ?_)
  · obtain ⟨v, rfl, _⟩ := h; rfl
  · obtain ⟨v, rfl, fv, q⟩ := h
    refine ⟨_, (pss_one (ps_ret (pe_and (pe_callB call_isi (by rfl) T.z_isinstance (by decide +kernel) (pa_cons (pv 0) (pa_cons (pe_bltn (v := .ty "int") (by rfl) T.z_int (by decide +kernel) rfl) pa_nil))) (pe_one (pe_not (pe_callB call_isi (by rfl) T.z_isinstance (by decide +kernel) (pa_cons (pv 0) (pa_cons (pe_bltn (v := .ty "bool") (by rfl) T.z_bool (by decide +kernel) rfl) pa_nil)))))))), ?_⟩
    refine s_ret (R := Free) (ev_val (ev_and (ev_isi (ev_is rfl) ev_c (.ty _) (fun _ _ => ty_flat fv) (kit_int fv)) fun _ => ev_not (ev_isi (ev_is rfl) ev_c (.ty _) (fun _ _ => ty_flat fv) (kit_bool fv))) rfl) (Gr.refl free_j) fun u H1 g _ e => ?_
    cases e
    have z : ((isI v || isB v) && !isB v) = isI v := by cases v <;> rfl
    show Q (.bl ((isI v || isB v) && !isB v)) H1
    rw [z]
    exact q H1 g.free
end
section
variable {P : Program} {w : World} {A : Ads} {K : PySem.W.Frag} {mg : Str → Option Value} {base : Heap}
def spIsName : Sp := fun vs H Q _ => ∃ v, vs = [v] ∧ flatV v = true ∧ (∀ z, v = .str z → z.length ≤ 100000) ∧ ∀ H', Same H H' → Q (.bl (nameV v)) H'
theorem ok_is_name (T : Tx A K mg) {f : Addr} {fd : FuncData} (F : Fun K "is_name" "is_name" s_is_name f fd) : FnOk P w K mg base CX0 1 f fd ["value"] spIsName := by
  refine F.ok sc_is_name (fun vs H Q E h => ?_) (fun cdv A' outer s H vs Q E hr h => ?_)
  · obtain ⟨v, rfl, _⟩ := h; rfl
  · obtain ⟨v, rfl, fv, hz, q⟩ := h
    refine ⟨_, (pss_cons (ps_if (PW.pt (pw_or (pt_not (pt_val (pe_callB call_isi (by rfl) T.z_isinstance (by decide +kernel) (pa_cons (pv 0) (pa_cons (pe_bltn (v := .ty "str") (by rfl) T.z_str (by decide +kernel) rfl) pa_nil))))) (pw_or1 (pt_cmpR op_in_seq (pv 0) (pe_glob (v := .ref A.KEYWORDS) rfl T.g_KEYWORDS rfl) (by rfl))))) (pss_one (ps_ret pe_bl)) pss_nil)
      (pss_one (ps_ret (pe_and (pe_chain op_le op_le pe_int (pe_callB call_len_str (by rfl) T.z_len (by decide +kernel) (pa_cons (pv 0) pa_nil)) pe_int) (pe_one (pe_callB (cr_all rfl) (by rfl) T.z_all (by decide +kernel) (pa_cons (pe_lc (own := [("letter", 1)]) (g := gName 1) rfl sc_is_name.nd (pi_str (pv 0)) (blkOk_by (own := [("letter", 1)]) (N := ["value", "letter"]) (sc := defScope s_is_name) (by decide +kernel)) (fun _ _ _ _ _ => pg_name (i := 1) sc_is_name.nd rfl (Or.inl rfl)) (fun _ _ _ _ _ => pts_nil) (fun _ _ _ _ _ => (pe_chain op_le_str op_le_str pe_str (pv 1) pe_str))) pa_nil))))))), ?_⟩
    have isi : EvP Free (tCB (rIsi K) (tCons (tVar 0) (tCons (tC (.ty "str")) tNil))) [some v, none] H (Is (.bl (isS v))) := ev_isi (ev_is rfl) ev_c (.ty _) (fun _ _ => ty_flat fv) (kit_str fv)
    have kin : EvP Free (tC (.ref A.KEYWORDS)) [some v, none] H (fun u H => ∃ p, u = .ref p ∧ (SqL K H p keyws ∨ SqT K H p keyws)) := ev_cP fun H' _ => ⟨_, rfl, .inr (T.t_KEYWORDS H')⟩
    refine s_if1 (R := Free) (et_or (et_not (et_B isi)) fun _ => et_test (ev_in (neg := false) (xs := keyws) fv rfl (ev_is rfl) kin)) (Gr.refl free_j) (fun hb H1 g gv => ?_) (fun hb H1 g gv => ?_)
    · refine s_ret (R := Free) ev_c g fun u H2 g2 _ e => ?_
      cases e
      have z : nameV v = false := by
        cases v with
        | str z =>
          have hb' : inV (.str z) keyws = true := hb
          show (!inV (.str z) keyws && _) = false
          rw [hb']
          rfl
        | _ => rfl
      show Q (.bl false) H2
      rw [← z]
      exact q H2 g2.free
    · cases v with
      | str z =>
        have hb' : inV (.str z) keyws = false := hb
        have ln := hz z rfl
        have all : z.cps.size ≤ 4 → EvP Free (tCB (rAll K) (tCons (tLc (iStr (tVar 0)) (gName 1) tYes (tChain _ _ (tC (.str "a")) (tVar 1) (tC (.str "z"))) [1]) tNil)) [some (.str z), none] H (Is (.bl (letters z))) := fun h4 => by
          refine ev_val (ev_all (bs := (List.range z.cps.size).map fun i => (decide (97 ≤ z.cps.getD i 0) && decide (z.cps.getD i 0 ≤ 122))) ?_) (congrArg V.bl (letters_is z).symm)
          refine ev_imp (ev_lcV (fun i => .bl (decide (97 ≤ z.cps.getD i 0) && decide (z.cps.getD i 0 ≤ 122))) (fun _ => true) (ew_str (ev_is rfl)) (by omega) yStr_ok (fun _ => rfl) fun D _ i x hi ⟨c, hc, ex⟩ => ⟨et_yes, fun _ => ?_⟩) fun u H' _ ⟨p, e, hp, _⟩ => ⟨p, e, .inl (.inl (by rw [hp, filter_yes, List.map_map]; rfl))⟩
          subst ex
          have ec : z.cps.getD i 0 = c := by simp [Array.getD, hi, Array.getElem?_eq_some_iff.mp hc |>.choose_spec]
          refine ev_val (ev_chain ev_c (ev_is rfl) ev_c (fun H1 g => rv_le g.1) (fun H1 g => rv_le g.1)) ?_
          rw [ec, az_lo, az_hi]
        dsimp only
        refine s_ret (R := Free) (P := Is (.bl (nameV (.str z)))) ?_ g fun u H2 g2 _ e => e ▸ q H2 g2.free
        refine ev_val (ev_and (ev_chainI ev_c (ev_lenS (ev_is rfl) ln) ev_c) fun h => all ?_) ?_
        · have h2 := (Bool.and_eq_true_iff.mp h).2
          have h3 : (z.length : Int) ≤ 4 := of_decide_eq_true h2
          have h4 : z.length = z.cps.size := rfl
          omega
        · show V.bl (decide ((1 : Int) ≤ (z.length : Int)) && decide ((z.length : Int) ≤ 4) && letters z) = V.bl (!inV (.str z) keyws && (decide (1 ≤ z.length) && decide (z.length ≤ 4) && letters z))
          have e1 : decide ((1 : Int) ≤ (z.length : Int)) = decide (1 ≤ z.length) := decide_eq_decide.mpr (by omega)
          have e2 : decide ((z.length : Int) ≤ 4) = decide (z.length ≤ 4) := decide_eq_decide.mpr (by omega)
          rw [hb', e1, e2]
          rfl
      | _ => exact absurd hb (by intro h; cases h)
end
section
variable {P : Program} {w : World} {A : Ads} {K : PySem.W.Frag} {mg : Str → Option Value} {base : Heap}
def spMarkOr (K : PySem.W.Frag) : Sp := fun vs H Q _ => ∃ v p ws, vs = [v, .ref p] ∧ flatV v = true ∧ (∀ z, v = .str z → z.length ≤ 100000) ∧ SqT K H p ws ∧ ws.all flatV = true ∧ ∀ H', Same H H' → Q (.bl (nameV v || inV v ws)) H'
theorem ev_isName {R : Res} {σ : L2.St} {H : Hp} {ta : TE} {v : V} {E : XK} (h : EvP R ta σ H (Is v)) (fv : flatV v = true) (hz : ∀ z, v = .str z → z.length ≤ 100000) : EvP R (tCall spIsName [] E (tCons ta tNil)) σ H (Is (.bl (nameV v))) :=
  ev_call (ea_is h ea_nil) fun vs H1 g ps Q q => by
    cases psOk1 ps
    exact ⟨v, rfl, fv, hz, fun H' e => q _ H' (Gv.same g.1 e) rfl⟩
theorem ev_isInt {R : Res} {σ : L2.St} {H : Hp} {ta : TE} {v : V} {E : XK} (h : EvP R ta σ H (Is v)) (fv : flatV v = true) : EvP R (tCall spIsInt [] E (tCons ta tNil)) σ H (Is (.bl (isI v))) :=
  ev_call (ea_is h ea_nil) fun vs H1 g ps Q q => by
    cases psOk1 ps
    exact ⟨v, rfl, fv, fun H' e => q _ H' (Gv.same g.1 e) rfl⟩
theorem ok_mark_or (T : Tx A K mg) (c_is_name : CalX P w K mg base CX0 1 "is_name" spIsName) {f : Addr} {fd : FuncData} (F : Fun K "_is_mark_or" "_is_mark_or" s_is_mark_or f fd) : FnOk P w K mg base CX0 2 f fd ["value", "words"] (spMarkOr K) := by
  refine F.ok sc_is_mark_or (fun vs H Q E h => ?_) (fun cdv A' outer s H vs Q E hr h => ?_)
  · obtain ⟨v, p, ws, rfl, _⟩ := h; rfl
  · obtain ⟨v, p, ws, rfl, fv, hz, hp, fw, q⟩ := h
    refine ⟨_, (pss_one (ps_ret (pe_or (pe_cal c_is_name hr (by decide) pass0 (pa_cons (pv 0) pa_nil)) (pe_one (pe_cmpR op_in_seq (pv 0) (pv 1) (by rfl)))))), ?_⟩
    refine s_ret (R := Free) (P := Is (.bl (nameV v || inV v ws))) ?_ (Gr.refl free_j) fun u H1 g _ e => e ▸ q H1 g.free
    exact ev_or (ev_isName (ev_is rfl) fv hz) fun _ => ev_in (neg := false) (xs := ws) fv fw (ev_is rfl) (ev_var (v := .ref p) rfl (al_free fun H' e => ⟨p, rfl, .inr (SqT.ext hp e)⟩))
def addV : V → Bool
  | .int i => decide (-3 ≤ i) && decide (i ≤ 3)
  | _ => false
def spAdded : Sp := fun vs H Q _ => ∃ v, vs = [v] ∧ flatV v = true ∧ ∀ H', Same H H' → Q (.bl (addV v)) H'
theorem ok_added (T : Tx A K mg) (c_is_integer : CalX P w K mg base CX0 1 "is_integer" spIsInt) {f : Addr} {fd : FuncData} (F : Fun K "_is_added" "_is_added" s_is_added f fd) : FnOk P w K mg base CX0 2 f fd ["value"] spAdded := by
  refine F.ok sc_is_added (fun vs H Q E h => ?_) (fun cdv A' outer s H vs Q E hr h => ?_)
  · obtain ⟨v, rfl, _⟩ := h; rfl
  · obtain ⟨v, rfl, fv, q⟩ := h
    refine ⟨_, (pss_one (ps_ret (pe_and (pe_cal c_is_integer hr (by decide) pass0 (pa_cons (pv 0) pa_nil)) (pe_one (pe_chain op_le op_le (pe_un un_neg pe_int) (pv 0) pe_int))))), ?_⟩
    refine s_ret (R := Free) (P := Is (.bl (addV v))) ?_ (Gr.refl free_j) fun u H1 g _ e => e ▸ q H1 g.free
    refine ev_val (ev_and (b := addV v) (ev_isInt (ev_is rfl) fv) fun h => ?_) (by cases v <;> rfl)
    cases v with
    | int i => exact ev_chainI (ev_neg ev_c) (ev_is rfl) ev_c
    | _ => exact absurd h Bool.false_ne_true
def jd (js : List (Str × Bool)) : PyData := .tuple (js.map fun j => .tuple [.str j.1, .bool j.2])
/-- nothing is wrong -/
def spRefuse0 (K : PySem.W.Frag) : Sp := fun vs H Q _ => ∃ v js, vs = [v] ∧ Dp K H v (jd js) ∧ js.all (·.2) = true ∧ ∀ H', Same H H' → Q .non H'
theorem ok_refuse0 (T : Tx A K mg) {f : Addr} {fd : FuncData} (F : Fun K "_refuse_wrong" "_refuse_wrong" s_refuse_wrong f fd) : FnOk P w K mg base CX0 1 f fd ["judged"] (spRefuse0 K) := by
  refine F.ok sc_refuse_wrong (fun vs H Q E h => ?_) (fun cdv A' outer s H vs Q E hr h => ?_)
  · obtain ⟨v, js, rfl, _⟩ := h; rfl
  · obtain ⟨v, js, rfl, hd, ha, q⟩ := h
    obtain ⟨a, xs, rfl, hx, hxs⟩ := dp_tup hd
    refine ⟨_, (pss_one (ps_for PassesOwn.never rfl (pi_tup (pv 0)) (pg_tup (by rfl) (pgs_cons (pg_name (i := 1) sc_refuse_wrong.nd rfl (by first | exact .inl rfl | exact .inr rfl)) (pgs_cons (pg_name (i := 2) sc_refuse_wrong.nd rfl (by first | exact .inl rfl | exact .inr rfl)) pgs_nil))) (pss_one (ps_if (pt_not (pt_val (pv 2))) (pss_one ps_never) pss_nil)))), ?_⟩
    refine s_for (R := Free) (H := H) (n := xs.length) (ew_tup (xs := xs) (ev_var (v := .ref a) rfl fun H' g => ⟨a, rfl, fun H2 g2 => SqT.ext hx (g.free.trans g2.free)⟩)) (Gr.refl free_j) fun H1 g1 _ =>
      ⟨fun i σ' H' => Same H1 H' ∧ ∃ y z, σ' = [some (.ref a), y, z], ⟨Same.refl H1, none, none, rfl⟩, fun i σ' H' _ p => (gv_free p.1).1, fun i x σ' H' H2 hi p y => ?_, fun σ' H' p => q H' (g1.free.trans p.1)⟩
    obtain ⟨e, y1, y2, rfl⟩ := p
    obtain ⟨rfl, hx2⟩ := y
    obtain ⟨d, hd2, dx⟩ := dpAll_get hxs hx2
    rw [List.getElem?_map] at hd2
    obtain ⟨j, hj, ej⟩ := Option.map_eq_some_iff.mp hd2
    subst ej
    obtain ⟨a2, ys, rfl, hy, hys⟩ := dp_tup (dp_same (g1.free.trans e) _ _ dx)
    have hb : j.2 = true := List.all_eq_true.mp ha j (List.mem_of_getElem? hj)
    cases hys with
    | cons h1 h2 =>
      cases h2 with
      | cons h2 h3 =>
        cases h3
        cases dp_str h1
        cases dp_bool h2
        refine ⟨a2, _, rfl, hy, rfl, _, _, rfl, _, _, rfl, rfl, ?_⟩
        refine s_if1 (R := Free) (b := !j.2) (et_not (et_B (ev_is rfl))) (Gr.refl free_j) (fun z => ?_) fun _ H3 g3 _ => ?_
        · rw [hb] at z
          cases z
        · exact ⟨e.trans g3.free, _, _, rfl⟩
end
section
variable {P : Program} {w : World} {A : Ads} {K : PySem.W.Frag} {mg : Str → Option Value} {base : Heap}
def RowD.cls (A : Ads) : RowD → Addr
  | .step .. => A.Step
  | .join .. => A.Join
  | .part .. => A.Part
def RowAt (A : Ads) (r : RowD) (H : Hp) (a : Addr) : Prop := ∃ dx t, H a = some (.ins (r.cls A) dx (r.flds t)) ∧ H t = some (.tup (r.words.map V.str))
def spRowInit (K : PySem.W.Frag) : Sp := fun vs H Q _ => ∃ a C dx v, vs = [.ref a, v] ∧ H a = some (.ins C dx []) ∧ Cls K C ∧ NoAttr K C "words" ∧ Q .non (upd H a (.ins C dx [("words", v)]))
theorem ok_row_init (T : Tx A K mg) {f : Addr} {fd : FuncData} (F : Fun K "__init__" "Row.__init__" s_Row_init f fd) : FnOk P w K mg base CX0 1 f fd ["self", "words"] (spRowInit K) := by
  refine F.ok sc_Row_init (fun vs H Q E h => ?_) (fun cdv A' outer s H vs Q E hr h => ?_)
  · obtain ⟨a, C, dx, v, rfl, _⟩ := h; rfl
  · obtain ⟨a, C, dx, v, rfl, ha, hc, hn, q⟩ := h
    refine ⟨_, (pss_one (ps_fld (pv 0) (pv 1) rfl)), ?_⟩
    exact ⟨_, rfl, _, rfl, a, C, dx, [], rfl, ha, hc, hn, by decide, q⟩
theorem ev_markOr {R : Res} {σ : L2.St} {H : Hp} {ta tb : TE} {v : V} {ws : List V} {E : XK} (h : EvP R ta σ H (Is v)) (h2 : EvP R tb σ H (IsU K R ws)) (fv : flatV v = true) (hz : ∀ z, v = .str z → z.length ≤ 100000) (fw : ws.all flatV = true) :
    EvP R (tCall (spMarkOr K) [] E (tCons ta (tCons tb tNil))) σ H (Is (.bl (nameV v || inV v ws))) := ev_call (ea_is h (ea_cons stb_isU h2 ea_nil)) fun vs H1 g ps Q q => by
  obtain ⟨u, rfl, p, rfl, hp⟩ := psOk_2 ps
  exact ⟨v, p, ws, rfl, fv, hz, hp.now g.1, fw, fun H' e => q _ H' (Gv.same g.1 e) rfl⟩
theorem ev_added {R : Res} {σ : L2.St} {H : Hp} {ta : TE} {v : V} {E : XK} (h : EvP R ta σ H (Is v)) (fv : flatV v = true) : EvP R (tCall spAdded [] E (tCons ta tNil)) σ H (Is (.bl (addV v))) :=
  ev_call (ea_is h ea_nil) fun vs H1 g ps Q q => by
    cases psOk1 ps
    exact ⟨v, rfl, fv, fun H' e => q _ H' (Gv.same g.1 e) rfl⟩
theorem ev_refuse0 {R : Res} {σ : L2.St} {H : Hp} {ta : TE} {E : XK} (js : List (Str × Bool)) (h : EvP R ta σ H (Rp K R (jd js))) (ha : js.all (·.2) = true) : EvP R (tCall (spRefuse0 K) [] E (tCons ta tNil)) σ H (Is .non) :=
  ev_call (ea_cons stb_rp h ea_nil) fun vs H1 g ps Q q => by
    match vs, ps with
    | [v], ⟨hp, _⟩ => exact ⟨v, js, rfl, hp.now g.1, ha, fun H' e => q _ H' (Gv.same g.1 e) rfl⟩
/-- the pair of a word and what was judged -/
theorem ev_judged {R : Res} {σ : L2.St} {H : Hp} {tb : TE} {z : Str} {b : Bool} (h : EvP R tb σ H (Is (.bl b))) : EvP R (tTup (tCons (tC (.str z)) (tCons tb tNil))) σ H (Rp K R (.tuple [.str z, .bool b])) :=
  ev_tupD (ds := [.str z, .bool b]) (ea_cons stb_rp (ev_D ev_c rfl) (ea_cons stb_rp (ev_D h rfl) ea_nil)) (by decide : 2 ≤ 1000)
/-- behind the making: all that stood stands, the row stands at a -/
def Made (A : Ads) (r : RowD) (a : Addr) (H H' : Hp) : Prop := (∀ x o, x ≠ a → H x = some o → H' x = some o) ∧ ∃ dx t, H' a = some (.ins (r.cls A) dx (r.flds t)) ∧ H' t = some (.tup (r.words.map V.str)) ∧ H t = none
def spStep0 (A : Ads) : Sp := fun vs H Q _ => ∃ a dx k o t i, vs = [.ref a, .str k, .str o, .str t, .int i] ∧ H a = some (.ins A.Step dx []) ∧ (RowD.step k o t i).ok = true ∧ (RowD.step k o t i).small ∧ ∀ H', Made A (.step k o t i) a H H' → Q .non H'
theorem ok_step0 (T : Tx A K mg) (c_refuse_wrong : CalX P w K mg base CX0 1 "_refuse_wrong" (spRefuse0 K)) (c_is_mark_or : CalX P w K mg base CX0 2 "_is_mark_or" (spMarkOr K)) (c_is_added : CalX P w K mg base CX0 2 "_is_added" spAdded)
    {fR : Addr} {fdR : FuncData} (FR : FnOk P w K mg base CX0 1 A.f_Row_init fdR ["self", "words"] (spRowInit K)) (bR : Binds K fdR ["self", "words"] []) {f : Addr} {fd : FuncData} (F : Fun K "__init__" "Step.__init__" s_Step_init f fd) : FnOk P w K mg base CX0 3 f fd ["self", "kind", "old", "then", "add"] (spStep0 A) := by
  refine F.ok sc_Step_init (fun vs H Q E h => ?_) (fun cdv A' outer s H vs Q E hr h => ?_)
  · obtain ⟨a, dx, k, o, t, i, rfl, _⟩ := h; rfl
  · obtain ⟨a, dx, k, o, t, i, rfl, ha, ok, sm, q⟩ := h
    refine ⟨_, (pss_cons (ps_expr (pe_cal c_refuse_wrong hr (by decide) pass0 (pa_cons (pe_tup (pa_cons (pe_tup (pa_cons pe_str (pa_cons (pe_cmpR op_in_seq (pv 1) (pe_glob (v := .ref A.KINDS) rfl T.g_KINDS rfl) (by rfl)) pa_nil))) (pa_cons (pe_tup (pa_cons pe_str (pa_cons (pe_cal c_is_mark_or hr (by decide) pass0 (pa_cons (pv 2) (pa_cons (pe_tup (pa_cons pe_str pa_nil)) pa_nil))) pa_nil))) (pa_cons (pe_tup (pa_cons pe_str (pa_cons (pe_cal c_is_mark_or hr (by decide) pass0 (pa_cons (pv 3) (pa_cons (pe_tup (pa_cons pe_str pa_nil)) pa_nil))) pa_nil))) (pa_cons (pe_tup (pa_cons pe_str (pa_cons (pe_cal c_is_added hr (by decide) pass0 (pa_cons (pv 4) pa_nil)) pa_nil))) pa_nil))))) pa_nil)))
      (pss_cons (ps_expr (pe_off (pe_glob (v := .ref A.Row) rfl T.g_Row rfl) ⟨T.rowRd, T.rowGa⟩ ⟨T.rowOff, rfl⟩ FR (hr.mono (by decide)) T.rowKeep bR pass0 (pa_cons (pv 0) (pa_cons (pe_tup (pa_cons (pv 1) (pa_cons (pv 2) (pa_cons pe_str (pa_cons (pv 3) (pa_cons pe_str (pa_cons (pe_callTy call_str_int (by rfl) T.z_str (by decide +kernel) (pa_cons (pv 4) pa_nil)) pa_nil))))))) pa_nil))))
      (pss_cons (ps_fld (pv 0) (pv 1) rfl)
      (pss_cons (ps_fld (pv 0) (pv 2) rfl)
      (pss_cons (ps_fld (pv 0) (pv 3) rfl)
      (pss_one (ps_fld (pv 0) (pv 4) rfl))))))), ?_⟩
    have j0 : (Free.add a).J H := ⟨True.intro, by rw [ha]; exact fun z => nomatch z⟩
    obtain ⟨ok3, ok4⟩ := Bool.and_eq_true_iff.mp ok
    obtain ⟨ok2, okt⟩ := Bool.and_eq_true_iff.mp ok3
    obtain ⟨okk, oko⟩ := Bool.and_eq_true_iff.mp ok2
    refine s_drop (R := Free.add a) (H := H) (ev_refuse0 (K := K) [("kind", inV (.str k) kindsV), ("old", nameOr o [.str "any"]), ("then", nameOr t [.str "same"]), ("add", addOk i)] ?_ ?_) (Gr.refl j0) fun u H1 g1 gv1 _ => ?_
    · refine ev_tupD (ds := [.tuple [.str "kind", .bool (inV (.str k) kindsV)], .tuple [.str "old", .bool (nameOr o [.str "any"])], .tuple [.str "then", .bool (nameOr t [.str "same"])], .tuple [.str "add", .bool (addOk i)]]) (ea_cons stb_rp (ev_judged ?_) (ea_cons stb_rp (ev_judged ?_) (ea_cons stb_rp (ev_judged ?_) (ea_cons stb_rp (ev_judged ?_) ea_nil)))) (by decide : 4 ≤ 1000)
      · exact ev_in (neg := false) (xs := kindsV) rfl rfl (ev_is rfl) (ev_cP fun H' _ => ⟨_, rfl, .inr (T.t_KINDS H')⟩)
      · exact ev_markOr (v := .str o) (ev_is rfl) (ev_tupU (vs := [.str "any"]) (ea_is ev_c ea_nil) (by decide)) rfl (fun z e => by cases e; exact Nat.le_trans sm.2.1 (by decide)) rfl
      · exact ev_markOr (v := .str t) (ev_is rfl) (ev_tupU (vs := [.str "same"]) (ea_is ev_c ea_nil) (by decide)) rfl (fun z e => by cases e; exact Nat.le_trans sm.2.2 (by decide)) rfl
      · exact ev_added (v := .int i) (ev_is rfl) rfl
    · show (inV (.str k) kindsV && (nameOr o [.str "any"] && (nameOr t [.str "same"] && (addOk i && true)))) = true
      rw [okk, oko, okt, ok4]
      rfl
    -- Row.__init__(self, (..))
    refine s_off (R := Free.add a) (H := H) (Ps := [Is (.ref a), TupW (Free.add a) H ((RowD.step k o t i).words.map V.str)]) ?_ g1 fun vs H2 g2 gv2 ps => ?_
    · exact ea_is (ev_is rfl) (ea_cons stb_tupW (ev_tupW (ea_is (ev_is rfl) (ea_is (ev_is rfl) (ea_is ev_c (ea_is (ev_is rfl) (ea_is ev_c (ea_is (ev_strI (ev_is rfl) (add_log ok4)) ea_nil)))))) (by show 6 ≤ 1000; decide)) ea_nil)
    obtain ⟨u2, rfl, p, rfl, hp, hd, hpn⟩ := psOk_2 ps
    have ha2 : H2 a = some (.ins A.Step dx []) := ((gv1.trans gv2).2 a List.mem_cons_self).trans ha
    have npa : p ≠ a := fun z => hd.2 (by rw [z]; exact List.mem_cons_self)
    have hc := T.o_Step.cls
    refine ⟨a, A.Step, dx, .ref p, rfl, ha2, hc, T.na_Step_words, ?_⟩
    refine s_fld (v := .str k) rfl rfl upd_same hc T.na_Step_kind (Nat.le_of_ble_eq_true rfl) ?_
    refine s_fld (v := .str o) rfl rfl upd_same hc T.na_Step_old (Nat.le_of_ble_eq_true rfl) ?_
    refine s_fld (v := .str t) rfl rfl upd_same hc T.na_Step_then (Nat.le_of_ble_eq_true rfl) ?_
    refine s_fld (v := .int i) rfl rfl upd_same hc T.na_Step_add (Nat.le_of_ble_eq_true rfl) ?_
    refine q _ ⟨fun x u hx e => ?_, dx, p, ?_, ?_, hpn⟩
    · rw [upd_ne hx, upd_ne hx, upd_ne hx, upd_ne hx, upd_ne hx]
      exact g2.2 x u e List.not_mem_nil (by simpa [Res.add, Free] using hx)
    · rw [upd_same]
      rfl
    · rw [upd_ne npa, upd_ne npa, upd_ne npa, upd_ne npa, upd_ne npa]
      exact hp
end
section
variable {P : Program} {w : World} {A : Ads} {K : PySem.W.Frag} {mg : Str → Option Value} {base : Heap}
def spJoin0 (A : Ads) : Sp := fun vs H Q _ => ∃ a dx k o t i, vs = [.ref a, .str k, .str o, .str t, .int i] ∧ H a = some (.ins A.Join dx []) ∧ (RowD.join k o t i).ok = true ∧ (RowD.join k o t i).small ∧ ∀ H', Made A (.join k o t i) a H H' → Q .non H'
theorem ok_join0 (T : Tx A K mg) (c_refuse_wrong : CalX P w K mg base CX0 1 "_refuse_wrong" (spRefuse0 K)) (c_is_mark_or : CalX P w K mg base CX0 2 "_is_mark_or" (spMarkOr K)) (c_is_added : CalX P w K mg base CX0 2 "_is_added" spAdded)
    {fR : Addr} {fdR : FuncData} (FR : FnOk P w K mg base CX0 1 A.f_Row_init fdR ["self", "words"] (spRowInit K)) (bR : Binds K fdR ["self", "words"] []) {f : Addr} {fd : FuncData} (F : Fun K "__init__" "Join.__init__" s_Join_init f fd) : FnOk P w K mg base CX0 3 f fd ["self", "here", "there", "then", "add"] (spJoin0 A) := by
  refine F.ok sc_Join_init (fun vs H Q E h => ?_) (fun cdv A' outer s H vs Q E hr h => ?_)
  · obtain ⟨a, dx, k, o, t, i, rfl, _⟩ := h; rfl
  · obtain ⟨a, dx, k, o, t, i, rfl, ha, ok, sm, q⟩ := h
    refine ⟨_, (pss_cons (ps_expr (pe_cal c_refuse_wrong hr (by decide) pass0 (pa_cons (pe_tup (pa_cons (pe_tup (pa_cons pe_str (pa_cons (pe_cal c_is_mark_or hr (by decide) pass0 (pa_cons (pv 1) (pa_cons (pe_tup (pa_cons pe_str pa_nil)) pa_nil))) pa_nil))) (pa_cons (pe_tup (pa_cons pe_str (pa_cons (pe_cal c_is_mark_or hr (by decide) pass0 (pa_cons (pv 2) (pa_cons (pe_tup (pa_cons pe_str pa_nil)) pa_nil))) pa_nil))) (pa_cons (pe_tup (pa_cons pe_str (pa_cons (pe_cal c_is_mark_or hr (by decide) pass0 (pa_cons (pv 3) (pa_cons (pe_tup (pa_cons pe_str (pa_cons pe_str pa_nil))) pa_nil))) pa_nil))) (pa_cons (pe_tup (pa_cons pe_str (pa_cons (pe_cal c_is_added hr (by decide) pass0 (pa_cons (pv 4) pa_nil)) pa_nil))) pa_nil))))) pa_nil)))
      (pss_cons (ps_expr (pe_off (pe_glob (v := .ref A.Row) rfl T.g_Row rfl) ⟨T.rowRd, T.rowGa⟩ ⟨T.rowOff, rfl⟩ FR (hr.mono (by decide)) T.rowKeep bR pass0 (pa_cons (pv 0) (pa_cons (pe_tup (pa_cons pe_str (pa_cons (pv 1) (pa_cons (pv 2) (pa_cons pe_str (pa_cons (pv 3) (pa_cons pe_str (pa_cons (pe_callTy call_str_int (by rfl) T.z_str (by decide +kernel) (pa_cons (pv 4) pa_nil)) pa_nil)))))))) pa_nil))))
      (pss_cons (ps_fld (pv 0) (pv 1) rfl)
      (pss_cons (ps_fld (pv 0) (pv 2) rfl)
      (pss_cons (ps_fld (pv 0) (pv 3) rfl)
      (pss_one (ps_fld (pv 0) (pv 4) rfl))))))), ?_⟩
    have j0 : (Free.add a).J H := ⟨True.intro, by rw [ha]; exact fun z => nomatch z⟩
    obtain ⟨ok3, ok4⟩ := Bool.and_eq_true_iff.mp ok
    obtain ⟨ok2, okt⟩ := Bool.and_eq_true_iff.mp ok3
    obtain ⟨okk, oko⟩ := Bool.and_eq_true_iff.mp ok2
    refine s_drop (R := Free.add a) (H := H) (ev_refuse0 (K := K) [("here", nameOr k [.str "any"]), ("there", nameOr o [.str "any"]), ("then", nameOr t [.str "one", .str "other"]), ("add", addOk i)] ?_ ?_) (Gr.refl j0) fun u H1 g1 gv1 _ => ?_
    · refine ev_tupD (ds := [.tuple [.str "here", .bool (nameOr k [.str "any"])], .tuple [.str "there", .bool (nameOr o [.str "any"])], .tuple [.str "then", .bool (nameOr t [.str "one", .str "other"])], .tuple [.str "add", .bool (addOk i)]]) (ea_cons stb_rp (ev_judged ?_) (ea_cons stb_rp (ev_judged ?_) (ea_cons stb_rp (ev_judged ?_) (ea_cons stb_rp (ev_judged ?_) ea_nil)))) (by decide : 4 ≤ 1000)
      · exact ev_markOr (v := .str k) (ev_is rfl) (ev_tupU (vs := [.str "any"]) (ea_is ev_c ea_nil) (by decide)) rfl (fun z e => by cases e; exact Nat.le_trans sm.1 (by decide)) rfl
      · exact ev_markOr (v := .str o) (ev_is rfl) (ev_tupU (vs := [.str "any"]) (ea_is ev_c ea_nil) (by decide)) rfl (fun z e => by cases e; exact Nat.le_trans sm.2.1 (by decide)) rfl
      · exact ev_markOr (v := .str t) (ev_is rfl) (ev_tupU (vs := [.str "one", .str "other"]) (ea_is ev_c (ea_is ev_c ea_nil)) (by decide)) rfl (fun z e => by cases e; exact Nat.le_trans sm.2.2 (by decide)) rfl
      · exact ev_added (v := .int i) (ev_is rfl) rfl
    · show (nameOr k [.str "any"] && (nameOr o [.str "any"] && (nameOr t [.str "one", .str "other"] && (addOk i && true)))) = true
      rw [okk, oko, okt, ok4]
      rfl
    -- Row.__init__(self, (..))
    refine s_off (R := Free.add a) (H := H) (Ps := [Is (.ref a), TupW (Free.add a) H ((RowD.join k o t i).words.map V.str)]) ?_ g1 fun vs H2 g2 gv2 ps => ?_
    · exact ea_is (ev_is rfl) (ea_cons stb_tupW (ev_tupW (ea_is ev_c (ea_is (ev_is rfl) (ea_is (ev_is rfl) (ea_is ev_c (ea_is (ev_is rfl) (ea_is ev_c (ea_is (ev_strI (ev_is rfl) (add_log ok4)) ea_nil))))))) (by show 7 ≤ 1000; decide)) ea_nil)
    obtain ⟨u2, rfl, p, rfl, hp, hd, hpn⟩ := psOk_2 ps
    have ha2 : H2 a = some (.ins A.Join dx []) := ((gv1.trans gv2).2 a List.mem_cons_self).trans ha
    have npa : p ≠ a := fun z => hd.2 (by rw [z]; exact List.mem_cons_self)
    have hc := T.o_Join.cls
    refine ⟨a, A.Join, dx, .ref p, rfl, ha2, hc, T.na_Join_words, ?_⟩
    refine s_fld (v := .str k) rfl rfl upd_same hc T.na_Join_here (Nat.le_of_ble_eq_true rfl) ?_
    refine s_fld (v := .str o) rfl rfl upd_same hc T.na_Join_there (Nat.le_of_ble_eq_true rfl) ?_
    refine s_fld (v := .str t) rfl rfl upd_same hc T.na_Join_then (Nat.le_of_ble_eq_true rfl) ?_
    refine s_fld (v := .int i) rfl rfl upd_same hc T.na_Join_add (Nat.le_of_ble_eq_true rfl) ?_
    refine q _ ⟨fun x u hx e => ?_, dx, p, ?_, ?_, hpn⟩
    · rw [upd_ne hx, upd_ne hx, upd_ne hx, upd_ne hx, upd_ne hx]
      exact g2.2 x u e List.not_mem_nil (by simpa [Res.add, Free] using hx)
    · rw [upd_same]
      rfl
    · rw [upd_ne npa, upd_ne npa, upd_ne npa, upd_ne npa, upd_ne npa]
      exact hp
def spPart0 (A : Ads) : Sp := fun vs H Q _ => ∃ a dx k o t i m, vs = [.ref a, .str k, .str o, .str t, .int i, .int m] ∧ H a = some (.ins A.Part dx []) ∧ (RowD.part k o t i m).ok = true ∧ (RowD.part k o t i m).small ∧ ∀ H', Made A (.part k o t i m) a H H' → Q .non H'
theorem ok_part0 (T : Tx A K mg) (c_refuse_wrong : CalX P w K mg base CX0 1 "_refuse_wrong" (spRefuse0 K)) (c_is_mark_or : CalX P w K mg base CX0 2 "_is_mark_or" (spMarkOr K)) (c_is_added : CalX P w K mg base CX0 2 "_is_added" spAdded)
    {fR : Addr} {fdR : FuncData} (FR : FnOk P w K mg base CX0 1 A.f_Row_init fdR ["self", "words"] (spRowInit K)) (bR : Binds K fdR ["self", "words"] []) {f : Addr} {fd : FuncData} (F : Fun K "__init__" "Part.__init__" s_Part_init f fd) : FnOk P w K mg base CX0 3 f fd ["self", "old", "left", "right", "add", "more"] (spPart0 A) := by
  refine F.ok sc_Part_init (fun vs H Q E h => ?_) (fun cdv A' outer s H vs Q E hr h => ?_)
  · obtain ⟨a, dx, k, o, t, i, m, rfl, _⟩ := h; rfl
  · obtain ⟨a, dx, k, o, t, i, m, rfl, ha, ok, sm, q⟩ := h
    refine ⟨_, (pss_cons (ps_expr (pe_cal c_refuse_wrong hr (by decide) pass0 (pa_cons (pe_tup (pa_cons (pe_tup (pa_cons pe_str (pa_cons (pe_cal c_is_mark_or hr (by decide) pass0 (pa_cons (pv 1) (pa_cons (pe_tup (pa_cons pe_str pa_nil)) pa_nil))) pa_nil))) (pa_cons (pe_tup (pa_cons pe_str (pa_cons (pe_cal c_is_mark_or hr (by decide) pass0 (pa_cons (pv 2) (pa_cons (pe_tup (pa_cons pe_str pa_nil)) pa_nil))) pa_nil))) (pa_cons (pe_tup (pa_cons pe_str (pa_cons (pe_cal c_is_mark_or hr (by decide) pass0 (pa_cons (pv 3) (pa_cons (pe_tup (pa_cons pe_str pa_nil)) pa_nil))) pa_nil))) (pa_cons (pe_tup (pa_cons pe_str (pa_cons (pe_cal c_is_added hr (by decide) pass0 (pa_cons (pv 4) pa_nil)) pa_nil))) (pa_cons (pe_tup (pa_cons pe_str (pa_cons (pe_cal c_is_added hr (by decide) pass0 (pa_cons (pv 5) pa_nil)) pa_nil))) pa_nil)))))) pa_nil)))
      (pss_cons (ps_expr (pe_off (pe_glob (v := .ref A.Row) rfl T.g_Row rfl) ⟨T.rowRd, T.rowGa⟩ ⟨T.rowOff, rfl⟩ FR (hr.mono (by decide)) T.rowKeep bR pass0 (pa_cons (pv 0) (pa_cons (pe_tup (pa_cons pe_str (pa_cons (pv 1) (pa_cons pe_str (pa_cons (pv 2) (pa_cons (pv 3) (pa_cons pe_str (pa_cons (pe_callTy call_str_int (by rfl) T.z_str (by decide +kernel) (pa_cons (pv 4) pa_nil)) (pa_cons (pe_callTy call_str_int (by rfl) T.z_str (by decide +kernel) (pa_cons (pv 5) pa_nil)) pa_nil))))))))) pa_nil))))
      (pss_cons (ps_fld (pv 0) (pv 1) rfl)
      (pss_cons (ps_fld (pv 0) (pv 2) rfl)
      (pss_cons (ps_fld (pv 0) (pv 3) rfl)
      (pss_cons (ps_fld (pv 0) (pv 4) rfl)
      (pss_one (ps_fld (pv 0) (pv 5) rfl)))))))), ?_⟩
    have j0 : (Free.add a).J H := ⟨True.intro, by rw [ha]; exact fun z => nomatch z⟩
    obtain ⟨ok5, okm⟩ := Bool.and_eq_true_iff.mp ok
    obtain ⟨ok3, ok4⟩ := Bool.and_eq_true_iff.mp ok5
    obtain ⟨ok2, okt⟩ := Bool.and_eq_true_iff.mp ok3
    obtain ⟨okk, oko⟩ := Bool.and_eq_true_iff.mp ok2
    refine s_drop (R := Free.add a) (H := H) (ev_refuse0 (K := K) [("old", nameOr k [.str "any"]), ("left", nameOr o [.str "same"]), ("right", nameOr t [.str "same"]), ("add", addOk i), ("more", addOk m)] ?_ ?_) (Gr.refl j0) fun u H1 g1 gv1 _ => ?_
    · refine ev_tupD (ds := [.tuple [.str "old", .bool (nameOr k [.str "any"])], .tuple [.str "left", .bool (nameOr o [.str "same"])], .tuple [.str "right", .bool (nameOr t [.str "same"])], .tuple [.str "add", .bool (addOk i)], .tuple [.str "more", .bool (addOk m)]]) (ea_cons stb_rp (ev_judged ?_) (ea_cons stb_rp (ev_judged ?_) (ea_cons stb_rp (ev_judged ?_) (ea_cons stb_rp (ev_judged ?_) (ea_cons stb_rp (ev_judged ?_) ea_nil))))) (by decide : 5 ≤ 1000)
      · exact ev_markOr (v := .str k) (ev_is rfl) (ev_tupU (vs := [.str "any"]) (ea_is ev_c ea_nil) (by decide)) rfl (fun z e => by cases e; exact Nat.le_trans sm.1 (by decide)) rfl
      · exact ev_markOr (v := .str o) (ev_is rfl) (ev_tupU (vs := [.str "same"]) (ea_is ev_c ea_nil) (by decide)) rfl (fun z e => by cases e; exact Nat.le_trans sm.2.1 (by decide)) rfl
      · exact ev_markOr (v := .str t) (ev_is rfl) (ev_tupU (vs := [.str "same"]) (ea_is ev_c ea_nil) (by decide)) rfl (fun z e => by cases e; exact Nat.le_trans sm.2.2 (by decide)) rfl
      · exact ev_added (v := .int i) (ev_is rfl) rfl
      · exact ev_added (v := .int m) (ev_is rfl) rfl
    · show (nameOr k [.str "any"] && (nameOr o [.str "same"] && (nameOr t [.str "same"] && (addOk i && (addOk m && true))))) = true
      rw [okk, oko, okt, ok4, okm]
      rfl
    -- Row.__init__(self, (..))
    refine s_off (R := Free.add a) (H := H) (Ps := [Is (.ref a), TupW (Free.add a) H ((RowD.part k o t i m).words.map V.str)]) ?_ g1 fun vs H2 g2 gv2 ps => ?_
    · exact ea_is (ev_is rfl) (ea_cons stb_tupW (ev_tupW (ea_is ev_c (ea_is (ev_is rfl) (ea_is ev_c (ea_is (ev_is rfl) (ea_is (ev_is rfl) (ea_is ev_c (ea_is (ev_strI (ev_is rfl) (add_log ok4)) (ea_is (ev_strI (ev_is rfl) (add_log okm)) ea_nil)))))))) (by show 8 ≤ 1000; decide)) ea_nil)
    obtain ⟨u2, rfl, p, rfl, hp, hd, hpn⟩ := psOk_2 ps
    have ha2 : H2 a = some (.ins A.Part dx []) := ((gv1.trans gv2).2 a List.mem_cons_self).trans ha
    have npa : p ≠ a := fun z => hd.2 (by rw [z]; exact List.mem_cons_self)
    have hc := T.o_Part.cls
    refine ⟨a, A.Part, dx, .ref p, rfl, ha2, hc, T.na_Part_words, ?_⟩
    refine s_fld (v := .str k) rfl rfl upd_same hc T.na_Part_old (Nat.le_of_ble_eq_true rfl) ?_
    refine s_fld (v := .str o) rfl rfl upd_same hc T.na_Part_left (Nat.le_of_ble_eq_true rfl) ?_
    refine s_fld (v := .str t) rfl rfl upd_same hc T.na_Part_right (Nat.le_of_ble_eq_true rfl) ?_
    refine s_fld (v := .int i) rfl rfl upd_same hc T.na_Part_add (Nat.le_of_ble_eq_true rfl) ?_
    refine s_fld (v := .int m) rfl rfl upd_same hc T.na_Part_more (Nat.le_of_ble_eq_true rfl) ?_
    refine q _ ⟨fun x u hx e => ?_, dx, p, ?_, ?_, hpn⟩
    · rw [upd_ne hx, upd_ne hx, upd_ne hx, upd_ne hx, upd_ne hx, upd_ne hx]
      exact g2.2 x u e List.not_mem_nil (by simpa [Res.add, Free] using hx)
    · rw [upd_same]
      rfl
    · rw [upd_ne npa, upd_ne npa, upd_ne npa, upd_ne npa, upd_ne npa, upd_ne npa]
      exact hp
end
section
variable {P : Program} {w : World} {A : Ads} {K : PySem.W.Frag} {mg : Str → Option Value} {base : Heap}
theorem RowAt.same {r : RowD} {H H' : Hp} {a : Addr} (h : RowAt A r H a) (e : Same H H') : RowAt A r H' a := by
  obtain ⟨dx, t, h1, h2⟩ := h
  exact ⟨dx, t, e _ _ h1, e _ _ h2⟩
theorem row_cls (T : Tx A K mg) (r : RowD) : OwnC K (r.cls A) := by
  cases r
  · exact T.o_Step
  · exact T.o_Join
  · exact T.o_Part
theorem row_words (T : Tx A K mg) (r : RowD) : NoAttr K (r.cls A) "words" := by
  cases r
  · exact T.na_Step_words
  · exact T.na_Join_words
  · exact T.na_Part_words
theorem row_subRow (T : Tx A K mg) (r : RowD) : PySem.W.subIn K (.ref (r.cls A)) (.ref A.Row) = some true := by
  cases r
  · exact T.sSR
  · exact T.sJR
  · exact T.sPR
theorem flds_words (r : RowD) (t : Addr) : List.lookup ("words" : Str) (r.flds t) = some (V.ref t) := by cases r <;> rfl
def spRowStr (A : Ads) : Sp := fun vs H Q _ => ∃ a r, vs = [.ref a] ∧ RowAt A r H a ∧ r.good ∧ ∀ H', Same H H' → Q (.str r.text) H'
theorem ok_row_str (T : Tx A K mg) {f : Addr} {fd : FuncData} (F : Fun K "__str__" "Row.__str__" s_Row_str f fd) : FnOk P w K mg base CX0 1 f fd ["self"] (spRowStr A) := by
  refine F.ok sc_Row_str (fun vs H Q E h => ?_) (fun cdv A' outer s H vs Q E hr h => ?_)
  · obtain ⟨a, r, rfl, _⟩ := h; rfl
  · obtain ⟨a, r, rfl, hr2, hg, q⟩ := h
    refine ⟨_, (pss_one (ps_ret (pe_bm PySem.F.plainAttrs_str PySem.F.slot_str_join PySem.F.type_str_join mt_join pe_str (pa_cons (pe_fld (pv 0) rfl) pa_nil)))), ?_⟩
    obtain ⟨dx, t, h1, h2⟩ := id hr2
    refine s_ret (R := Free) (P := Is (.str r.text)) ?_ (Gr.refl free_j) fun u H1 g _ e => e ▸ q H1 g.free
    refine ev_join (ys := r.words) ev_c (ev_imp (ev_fld (v := .ref t) (ev_is rfl) (al_free fun H' e => e _ _ h1) (row_cls T r).cls (row_words T r) (flds_words r t)) fun u H' g e => ⟨t, e, .inr (.inl (.inl (g.free _ _ h2)))⟩) (words_fit hg)
/-- str(row) -/
abbrev rStrRow (A : Ads) (E1 E2 E3 : XK) : List V → Hp → VK → Prop := fun xs H Q => rStrOwn A.Step (spRowStr A) E1 xs H Q ∨ (rStrOwn A.Join (spRowStr A) E2 xs H Q ∨ rStrOwn A.Part (spRowStr A) E3 xs H Q)
theorem ev_strRow {R : Res} {σ : L2.St} {H : Hp} {ta : TE} {a : Addr} {r : RowD} {E1 E2 E3 : XK} (h : EvP R ta σ H (Is (.ref a))) (ha : Al R (fun H' => RowAt A r H' a) H) (hg : r.good) : EvP R (tCB (rStrRow A E1 E2 E3) (tCons ta tNil)) σ H (Is (.str r.text)) :=
  ev_cb (ea_is h ea_nil) fun vs H1 g ps Q q => by
    cases psOk1 ps
    have hr := ha H1 g
    have sp : ∀ E, spRowStr A [.ref a] H1 (fun v H' => ∃ z : Str, v = .str z ∧ Q (.str z) H') E := fun E => ⟨a, r, rfl, hr, hg, fun H' e => ⟨_, rfl, q _ H' (Gv.same g.1 e) rfl⟩⟩
    obtain ⟨dx, t, h1, h2⟩ := id hr
    cases r with
    | step => exact .inl ⟨a, dx, _, rfl, h1, sp _⟩
    | join => exact .inr (.inl ⟨a, dx, _, rfl, h1, sp _⟩)
    | part => exact .inr (.inr ⟨a, dx, _, rfl, h1, sp _⟩)
def spRowEq (A : Ads) (K : PySem.W.Frag) : Sp := fun vs H Q _ => ∃ a r v b, vs = [.ref a, v] ∧ RowAt A r H a ∧ r.good ∧
  ((∃ t, Al Free (fun H' => TyX K H' v t) H ∧ PySem.W.kitOne K t (.ref A.Row) = some false ∧ b = false) ∨ (∃ a2 r2, v = .ref a2 ∧ RowAt A r2 H a2 ∧ r2.good ∧ b = decide (r.text = r2.text))) ∧ ∀ H', Same H H' → Q (.bl b) H'
theorem ok_row_eq (T : Tx A K mg) {fS : Addr} {fdS : FuncData} (FS : FnOk P w K mg base CX0 1 A.f_Row_str fdS ["self"] (spRowStr A)) (bS : Binds K fdS ["self"] []) {f : Addr} {fd : FuncData} (F : Fun K "__eq__" "Row.__eq__" s_Row_eq f fd) : FnOk P w K mg base CX0 4 f fd ["self", "other"] (spRowEq A K) := by
  refine F.ok sc_Row_eq (fun vs H Q E h => ?_) (fun cdv A' outer s H vs Q E hr h => ?_)
  · obtain ⟨a, r, v, b, rfl, _⟩ := h; rfl
  · obtain ⟨a, r, v, b, rfl, ha, hg, hv, q⟩ := h
    refine ⟨_, (pss_one (ps_ret (pe_and (pe_callB call_isi (by rfl) T.z_isinstance (by decide +kernel) (pa_cons (pv 1) (pa_cons (pe_glob (v := .ref A.Row) rfl T.g_Row rfl) pa_nil))) (pe_one (pe_cmpR op_eq (pe_callTy (CallR.or (call_str_own (C := A.Step) ⟨T.m_Step_str, T.i_f_Row_str⟩ FS (hr.mono (by decide)) bS pass0) (CallR.or (call_str_own (C := A.Join) ⟨T.m_Join_str, T.i_f_Row_str⟩ FS (hr.mono (by decide)) bS pass0) (call_str_own (C := A.Part) ⟨T.m_Part_str, T.i_f_Row_str⟩ FS (hr.mono (by decide)) bS pass0))) (by rfl) T.z_str (by decide +kernel) (pa_cons (pv 0) pa_nil)) (pe_callTy (CallR.or (call_str_own (C := A.Step) ⟨T.m_Step_str, T.i_f_Row_str⟩ FS (hr.mono (by decide)) bS pass0) (CallR.or (call_str_own (C := A.Join) ⟨T.m_Join_str, T.i_f_Row_str⟩ FS (hr.mono (by decide)) bS pass0) (call_str_own (C := A.Part) ⟨T.m_Part_str, T.i_f_Row_str⟩ FS (hr.mono (by decide)) bS pass0))) (by rfl) T.z_str (by decide +kernel) (pa_cons (pv 1) pa_nil)) (nomark _)))))), ?_⟩
    refine s_ret (R := Free) (P := Is (.bl b)) ?_ (Gr.refl free_j) fun u H1 g _ e => e ▸ q H1 g.free
    rcases hv with ⟨t, ht, hk, rfl⟩ | ⟨a2, r2, rfl, ha2, hg2, rfl⟩
    · exact ev_val (ev_and (b := true) (ev_isi (ev_is rfl) ev_c (.own _) ht hk) fun h => absurd h Bool.false_ne_true) rfl
    · obtain ⟨dx, t, h1, h2⟩ := id ha2
      refine ev_val (ev_and (ev_isi (b := true) (ev_is rfl) ev_c (.own _) (al_free fun H' e => (row_cls T r2).typ ⟨T.ogt, T.otk⟩ (e _ _ h1)) (T.o_Row.kit (row_subRow T r2))) fun _ => ev_eq (x := .str r.text) (y := .str r2.text) rfl (ev_strRow (ev_is rfl) (al_free fun H' e => ha.same e) hg) (ev_strRow (ev_is rfl) (al_free fun H' e => ha2.same e) hg2)) ?_
      rw [Bool.true_and, dec_str']
end
section
variable {P : Program} {w : World} {A : Ads} {K : PySem.W.Frag} {mg : Str → Option Value} {base : Heap}
/-! ### a draw -/
def spDraw : Sp := fun vs H Q _ => ∃ a b n, vs = [.ref a, .int n] ∧ DealJ a b H ∧ 0 < n ∧ n ≤ 100000 ∧ ∀ v H', 0 ≤ v → v < n → DealJ a b H' → Rest a b H H' → Q (.int v) H'
theorem ok_draw (T : Tx A K mg) {f : Addr} {fd : FuncData} (F : Fun K "_law_draw" "_law_draw" s_law_draw f fd) : FnOk P w K mg base CX0 1 f fd ["_law_deal_here", "_law_many"] spDraw := by
  refine F.ok sc_law_draw (fun vs H Q E h => ?_) (fun cdv A' outer s H vs Q E hr h => ?_)
  · obtain ⟨a, b, n, rfl, _⟩ := h; rfl
  · obtain ⟨a, b, n, rfl, ⟨cs, m, hd⟩, hn, hn2, q⟩ := h
    refine ⟨_, (pss_cons (ps_while PassesOwn.never (PW.pt (pw_and (pt_cmpR (op_neD hr.units) (pe_ix ix_list (pv 0) pe_int (fun _ _ => rfl)) (pe_lst pa_nil) (nomark _)) (pw_and1 (pt_cmpR op_eq (pe_ix ix_list (pe_ix ix_list (pv 0) pe_int (fun _ _ => rfl)) (pe_un un_neg pe_int) (fun _ _ => rfl)) pe_int (nomark _))))) (pss_one (ps_expr (pe_bm0 PySem.F.plainAttrs_list PySem.F.slot_list_pop PySem.F.type_list_pop mt_pop (pe_ix ix_list (pv 0) pe_int (fun _ _ => rfl))))))
      (pss_cons (ps_if (pt_cmpR (op_neD hr.units) (pe_ix ix_list (pv 0) pe_int (fun _ _ => rfl)) (pe_lst pa_nil) (nomark _)) (pss_cons (ps_set (i := 2) sc_law_draw.nd rfl (by first | exact .inl rfl | exact .inr rfl) (pe_bm0 PySem.F.plainAttrs_list PySem.F.slot_list_pop PySem.F.type_list_pop mt_pop (pe_ix ix_list (pv 0) pe_int (fun _ _ => rfl))))
      (pss_cons (ps_expr (pe_bm PySem.F.plainAttrs_list PySem.F.slot_list_append PySem.F.type_list_append mt_append (pe_ix ix_list (pv 0) pe_int (fun _ _ => rfl)) (pa_cons (pe_op op_fdiv (pv 2) (pv 1)) pa_nil)))
      (pss_one (ps_ret (pe_op op_mod (pe_callTy call_int1 (by rfl) T.z_int (by decide +kernel) (pa_cons (pv 2) pa_nil)) (pv 1)))))) pss_nil)
      (pss_cons (ps_asg (pe_op op_mod (pe_callTy call_int1 (by rfl) T.z_int (by decide +kernel) (pa_cons (pe_op op_add (pe_op op_mul (pe_ix ix_list (pv 0) pe_int (fun _ _ => rfl)) pe_int) pe_int) pa_nil)) pe_int) (pg_sub (pv 0) pe_int set_list))
      (pss_one (ps_ret (pe_op op_mod (pe_callTy call_int1 (by rfl) T.z_int (by decide +kernel) (pa_cons (pe_op op_fdiv (pe_ix ix_list (pv 0) pe_int (fun _ _ => rfl)) pe_int) pa_nil)) (pv 1))))))), ?_⟩
    -- what is known of the source is told at each heap
    have cell : ∀ {H' : Hp} {cs m y}, DealAt a b cs m H' → EvP Free (tOp (rIxL K) (tVar 0) (tC (.int 0))) [some (.ref a), some (.int n), y] H' (Is (.ref b)) := fun {H' cs m y} h => ev_ixL (ev_varL rfl (al_lst h.1 ⟨List.not_mem_nil, List.not_mem_nil⟩)) ev_c rfl
    have cellL : ∀ {H' : Hp} {cs m y}, DealAt a b cs m H' → EvP Free (tOp (rIxL K) (tVar 0) (tC (.int 0))) [some (.ref a), some (.int n), y] H' (IsL K Free (cs.map V.int)) := fun {H' cs m y} h => ev_imp (cell h) fun v H2 g e => e ▸ ⟨b, rfl, Al.gr g (al_lst h.2.1 ⟨List.not_mem_nil, List.not_mem_nil⟩)⟩
    have full : ∀ {H' : Hp} {cs m y}, DealAt a b cs m H' → EvP Free (tOp (rNeD K) (tOp (rIxL K) (tVar 0) (tC (.int 0))) (tLst tNil)) [some (.ref a), some (.int n), y] H' (Is (.bl (!cs.isEmpty))) := fun {H' cs m y} h => by
      rw [← eqv_nilI]
      exact ev_neD (shaped_ints cs) (by decide +kernel) (ev_imp (cellL h) fun v H2 g ⟨p, e, hp⟩ => e ▸ rp_ints hp) (ev_lstD (ds := []) ea_nil (by decide))
    have at1 : ∀ {H' H1 : Hp} {cs m}, DealAt a b cs m H' → Same H' H1 → DealAt a b cs m H1 := fun {H' H1 cs m} h e => ⟨e _ _ h.1, e _ _ h.2.1, h.2.2⟩
    have ty : ∀ {H' : Hp} {cs m}, DealAt a b cs m H' → tyV K "list" (.ref b) H' := fun {H' cs m} h => .inl ⟨rfl, _, .inl (.inl h.2.1)⟩
    have popped : ∀ {H' : Hp} {l z m}, DealAt a b (l ++ [z]) m H' → DealAt a b l m (upd H' b (.lst (((l ++ [z]).map V.int).dropLast))) := fun {H' l z m} h => by
      obtain ⟨h1, h2, h3, h4, h5⟩ := id h
      refine ⟨by rw [upd_ne h.ne]; exact h1, by rw [upd_same, List.map_append, List.map_singleton, List.dropLast_concat], fun c hc => h3 c (List.mem_append_left _ hc), ?_, h5⟩
      rw [List.length_append] at h4
      omega
    have gone : ∀ {H' : Hp} {o : HO}, Rest a b H' (upd H' b o) := fun {H' o} x u n m e => by
      rw [upd_ne m]
      exact e
    have lastAt : ∀ (l : List Int) (z : Int), (((l ++ [z]).map V.int))[((l ++ [z]).map V.int).length - 1]? = some (.int z) := fun l z => by simp
    refine s_while (R := Free) (fun k σ' H' => ∃ cs mm y, k = cs.length ∧ σ' = [some (.ref a), some (.int n), y] ∧ DealAt a b cs mm H' ∧ Rest a b H H') cs.length ⟨cs, m, none, rfl, rfl, hd, Rest.refl H⟩ fun k σ' H' hw => ?_
    obtain ⟨cs, m, y, rfl, rfl, hd, hre⟩ := hw
    -- behind the loop
    have rest : ∀ H1, Gv Free H' H1 → ∀ D : Ends, D.rt = Q → (tSeq (tIfS (tTest (tOp (rNeD K) (tOp (rIxL K) (tVar 0) (tC (.int 0))) (tLst tNil))) (tSeq (tAsg (tBM0 K "list" rPop (tOp (rIxL K) (tVar 0) (tC (.int 0)))) (gName 2)) (tSeq (tDrop (tBM K "list" rAppend (tOp (rIxL K) (tVar 0) (tC (.int 0))) (tCons (tOp (rI CDiv fun i j => .int (i / j)) (tVar 2) (tVar 1)) tNil))) (tRet (tOp (rI (fun _ j => 0 < j) fun i j => .int (i % j)) (tCB (fun xs H Q => (∃ i, xs = [.int i] ∧ Q (.int i) H) ∨ ∃ k, xs = [.bl k] ∧ Q (.int (if k then 1 else 0)) H) (tCons (tVar 2) tNil)) (tVar 1))))) tNext)
        (tSeq (tAsg (tOp (rI (fun _ j => 0 < j) fun i j => .int (i % j)) (tCB (fun xs H Q => (∃ i, xs = [.int i] ∧ Q (.int i) H) ∨ ∃ k, xs = [.bl k] ∧ Q (.int (if k then 1 else 0)) H) (tCons (tOp (rI0 fun i j => .int (i + j)) (tOp (rI CMul fun i j => .int (i * j)) (tOp (rIxL K) (tVar 0) (tC (.int 1))) (tC (.int 48271))) (tC (.int 29))) tNil)) (tC (.int 2147483647))) (gSub (tVar 0) (tC (.int 1)) rSetL))
          (tRet (tOp (rI (fun _ j => 0 < j) fun i j => .int (i % j)) (tCB (fun xs H Q => (∃ i, xs = [.int i] ∧ Q (.int i) H) ∨ ∃ k, xs = [.bl k] ∧ Q (.int (if k then 1 else 0)) H) (tCons (tOp (rI CDiv fun i j => .int (i / j)) (tOp (rIxL K) (tVar 0) (tC (.int 1))) (tC (.int 16))) tNil)) (tVar 1))))) D [some (.ref a), some (.int n), y] H1 := by
      intro H1 g1 D hD
      have hd1 := at1 hd g1.1.free
      have re1 : Rest a b H H1 := hre.trans (.same g1.1.free)
      refine s_if1 (R := Free) (et_test (full hd1)) (Gr.refl free_j) (fun hb H2 g2 _ => ?_) (fun hb H2 g2 _ => ?_)
      · have hne : cs ≠ [] := fun z => by rw [z] at hb; exact nomatch hb
        obtain ⟨l, z, rfl⟩ : ∃ l z, cs = l ++ [z] := ⟨cs.dropLast, cs.getLast hne, (List.dropLast_concat_getLast hne).symm⟩
        have hd2 := at1 hd1 g2.free
        -- left = deal[0].pop()
        refine (cell hd2) H2 (Gr.refl free_j) _ fun u H3 g3 e => ?_
        cases e
        have hd3 := at1 hd2 g3.1.free
        refine ⟨ty hd3, b, _, .int z, rfl, rfl, hd3.2.1, lastAt l z, ?_⟩
        have hd4 := popped hd3
        generalize hH4 : upd H3 b (.lst (((l ++ [z]).map V.int).dropLast)) = H4 at hd4
        have re4 : Rest a b H H4 := ((re1.trans (.same g2.free)).trans (.same g3.1.free)).trans (by rw [← hH4]; exact gone)
        -- deal[0].append(left // many)
        show tSeq _ _ _ [some (.ref a), some (.int n), some (.int z)] _
        refine (cell (y := some (.int z)) hd4) H4 (Gr.refl free_j) _ fun u H5 g5 e => ?_
        cases e
        have hd5 := at1 hd4 g5.1.free
        refine ⟨ty hd5, (ea_is (R := Free) (H := H5) (ev_I (i := z) (j := n) ⟨hn, by omega⟩ (ev_is rfl) (ev_is rfl)) ea_nil) H5 (Gr.refl free_j) _ fun vs H6 g6 ps => ?_⟩
        cases psOk1 ps
        have hd6 := at1 hd5 g6.1.free
        refine ⟨b, _, _, rfl, rfl, hd6.2.1, ?_, ?_⟩
        · rw [List.length_map]
          have h4 := hd6.2.2.2.1
          exact small1000 (by omega)
        have hz : 0 ≤ z := hd.2.2.1 z (by simp)
        have re7 : Rest a b H (upd H6 b (.lst (l.map V.int ++ [.int (z / n)]))) := ((re4.trans (.same g5.1.free)).trans (.same g6.1.free)).trans gone
        have hd7 : DealJ a b (upd H6 b (.lst (l.map V.int ++ [.int (z / n)]))) := by
          obtain ⟨h1, h2, h3, h4, h5⟩ := id hd6
          have h4' := hd.2.2.2.1
          rw [List.length_append] at h4'
          refine ⟨l ++ [z / n], m, by rw [upd_ne hd6.ne]; exact h1, by rw [upd_same, List.map_append]; rfl, fun c hc => ?_, by rw [List.length_append]; exact h4', h5⟩
          rcases List.mem_append.mp hc with hc | hc
          · exact h3 c hc
          · rw [List.mem_singleton.mp hc]
            exact Int.ediv_nonneg hz (by omega)
        refine s_ret (R := Free) (H := upd H6 b (.lst (l.map V.int ++ [.int (z / n)]))) (ev_I (i := z) (j := n) hn (ev_int1 (ev_is rfl)) (ev_is rfl)) (Gr.refl free_j) fun u H8 g8 _ e => ?_
        cases e
        rw [hD]
        obtain ⟨cs8, m8, hd8⟩ := hd7
        exact q _ H8 (Int.emod_nonneg _ (by omega)) (Int.emod_lt_of_pos _ hn) ⟨cs8, m8, at1 hd8 g8.free⟩ (re7.trans (.same g8.free))
      · have hd2 := at1 hd1 g2.free
        have re2 : Rest a b H H2 := re1.trans (.same g2.free)
        have second : ∀ {H' : Hp} {cs m}, DealAt a b cs m H' → EvP Free (tOp (rIxL K) (tVar 0) (tC (.int 1))) [some (.ref a), some (.int n), y] H' (Is (.int m)) := fun {H' cs m} h => ev_ixL (ev_varL rfl (al_lst h.1 ⟨List.not_mem_nil, List.not_mem_nil⟩)) ev_c rfl
        have c1 : CMul m 48271 := .inr (by decide)
        refine (ev_I (R := Free) (C := fun _ j => 0 < j) (g := fun i j => .int (i % j)) (j := 2147483647) (by decide) (ev_int1 (ev_I0 (g := fun i j => .int (i + j)) (ev_I (C := CMul) (g := fun i j => .int (i * j)) c1 (second hd2) ev_c) ev_c)) ev_c) H2 (Gr.refl free_j) _ fun u H3 g3 e => ?_
        cases e
        have hd3 := at1 hd2 g3.1.free
        have hne := hd3.ne
        have re3 : Rest a b H H3 := re2.trans (.same g3.1.free)
        refine ⟨_, rfl, a, _, 1, 1, rfl, rfl, hd3.1, rfl, ?_⟩
        have hm0 : 0 ≤ (m * 48271 + 29) % 2147483647 := Int.emod_nonneg _ (by decide)
        have hm1 : (m * 48271 + 29) % 2147483647 < 2147483647 := Int.emod_lt_of_pos _ (by decide)
        have hd4 : DealAt a b cs ((m * 48271 + 29) % 2147483647) (upd H3 a (.lst ([V.ref b, .int m].set 1 (.int ((m * 48271 + 29) % 2147483647))))) :=
          ⟨upd_same, by rw [upd_ne fun e => hne e.symm]; exact hd3.2.1, hd3.2.2.1, hd3.2.2.2.1, hm0, hm1⟩
        have re4 : Rest a b H (upd H3 a (.lst ([V.ref b, .int m].set 1 (.int ((m * 48271 + 29) % 2147483647))))) := re3.trans fun x o n1 n2 e => by
          rw [upd_ne n1]
          exact e
        generalize upd H3 a (.lst ([V.ref b, .int m].set 1 (.int ((m * 48271 + 29) % 2147483647)))) = H4 at hd4 re4
        refine s_ret (R := Free) (H := H4) (ev_I (C := fun _ j => 0 < j) (g := fun i j => .int (i % j)) (j := n) hn (ev_int1 (ev_I (C := CDiv) (g := fun i j => .int (i / j)) (j := 16) ⟨by decide, by decide⟩ (second hd4) ev_c)) (ev_is rfl)) (Gr.refl free_j) fun u H8 g8 _ e => ?_
        cases e
        rw [hD]
        exact q _ H8 (Int.emod_nonneg _ (by omega)) (Int.emod_lt_of_pos _ hn) ⟨_, _, at1 hd4 g8.free⟩ (re4.trans (.same g8.free))
    by_cases hne : cs = []
    · subst hne
      refine ⟨false, et_is (et_and (b := false) (et_test (full hd)) fun h => nomatch h) rfl, Gr.refl free_j, fun h => Bool.noConfusion h, fun _ H1 g1 => rest H1 g1 _ rfl⟩
    · obtain ⟨l, z, rfl⟩ : ∃ l z, cs = l ++ [z] := ⟨cs.dropLast, cs.getLast hne, (List.dropLast_concat_getLast hne).symm⟩
      have lastI : atI ((l ++ [z]).map V.int) (-1) = some (.int z) := by
        rw [List.map_append]
        exact atI_last _ _
      refine ⟨_, et_and (et_test (full hd)) fun _ => et_test (ev_eq rfl (ev_ixL (cellL hd) (ev_neg ev_c) lastI) ev_c), Gr.refl free_j, fun _ H1 g1 => ⟨fun σ2 H2 => ∃ cs mm y, cs.length = l.length ∧ σ2 = [some (.ref a), some (.int n), y] ∧ DealAt a b cs mm H2 ∧ Rest a b H H2, fun σ2 H2 hN => ?_, ?_⟩, fun _ H1 g1 => rest H1 g1 _ rfl⟩
      · obtain ⟨cs, mm, y, e, h⟩ := hN
        exact ⟨cs.length, by rw [e, List.length_append]; exact Nat.lt_succ_self _, cs, mm, y, rfl, h⟩
      · have hd1 := at1 hd g1.1.free
        refine (cell hd1) H1 (Gr.refl free_j) _ fun u H3 g3 e => ?_
        cases e
        have hd3 := at1 hd1 g3.1.free
        exact ⟨ty hd3, b, _, .int z, rfl, rfl, hd3.2.1, lastAt l z, l, m, y, rfl, rfl, popped hd3, ((hre.trans (.same g1.1.free)).trans (.same g3.1.free)).trans gone⟩
end
section
variable {P : Program} {w : World} {A : Ads} {K : PySem.W.Frag} {mg : Str → Option Value} {base : Heap}
/-! ### a draw, a pick -/
def Below (n : Int) : VP := fun u _ => ∃ i : Int, u = .int i ∧ 0 ≤ i ∧ i < n
theorem ev_draw {R : Res} {a b : Addr} (I : IsDeal R a b) {σ : L2.St} {H : Hp} {ta tb : TE} {n : Int} {E : XK} (h1 : EvP R ta σ H (Is (.ref a))) (h2 : EvP R tb σ H (Is (.int n))) (n0 : 0 < n) (n1 : n ≤ 100000) : EvP R (tCall spDraw [] E (tCons ta (tCons tb tNil))) σ H (Below n) :=
  ev_dc I (ea_is h1 (ea_is h2 ea_nil)) fun vs H1 g ps d Q q => by
    cases psOk2 ps
    exact ⟨a, b, n, rfl, d, n0, n1, fun v H' v0 v1 d' r => q _ H' d' r ⟨v, rfl, v0, v1⟩⟩
theorem cutI (is : List Int) (lo hi : Option Int) : ∃ js : List Int, cutV (is.map V.int) lo hi = js.map V.int ∧ js.length ≤ HT.sIx is.length is.length hi := by
  refine ⟨(is.drop (HT.sIx is.length 0 lo)).take (HT.sIx is.length is.length hi - HT.sIx is.length 0 lo), ?_, ?_⟩
  · unfold cutV
    rw [List.length_map, List.map_take, List.map_drop]
  · rw [List.length_take]
    omega
theorem abs_nn (i : Int) : 0 ≤ (if i < 0 then -i else i) := by split <;> omega
def spDeal (K : PySem.W.Frag) : Sp := fun vs H Q _ => ∃ (l : Addr) (is : List Int), vs = [.ref l, .int 0] ∧ SqL K H l (is.map V.int) ∧ ∀ a b H', DealJ a b H' → Q (.ref a) H'
theorem ok_deal (T : Tx A K mg) {f : Addr} {fd : FuncData} (F : Fun K "_law_deal" "_law_deal" s_law_deal f fd) : FnOk P w K mg base CX0 1 f fd ["_law_script", "_law_base"] (spDeal K) := by
  refine F.ok sc_law_deal (fun vs H Q E h => ?_) (fun cdv A' outer s H vs Q E hr h => ?_)
  · obtain ⟨l, is, rfl, _⟩ := h; rfl
  · obtain ⟨l, is, rfl, hl, q⟩ := h
    refine ⟨_, (pss_cons (ps_setLc (i := 2) (own := [("_law_cell", 4)]) (g := gName 4) rfl sc_law_deal.nd rfl rfl (sw_true rfl rfl rfl (by decide +kernel)) (pi_list (pe_slice sl_list (pv 0) (po_some (pv 1)) (po_some pe_int))) (blkOk_by (own := [("_law_cell", 4)]) (N := ["_law_script", "_law_base", "_law_cells", "_law_mixed_here", "_law_cell"]) (sc := defScope s_law_deal) (by decide +kernel)) (fun _ _ _ _ _ => pg_name (i := 4) sc_law_deal.nd rfl (Or.inl rfl)) (fun _ _ _ _ _ => pts_nil) (fun _ _ _ _ _ => (pe_callB call_abs (by rfl) T.z_abs (by decide +kernel) (pa_cons (pe_callTy call_int1 (by rfl) T.z_int (by decide +kernel) (pa_cons (pv 4) pa_nil)) pa_nil))))
      (pss_cons (ps_set (i := 3) sc_law_deal.nd rfl (by first | exact .inl rfl | exact .inr rfl) (pe_op op_add pe_int (pe_op op_mul pe_int (pv 1))))
      (pss_cons (ps_for PassesOwn.never rfl (pi_list (pv 2)) (pg_name (i := 4) sc_law_deal.nd rfl (by first | exact .inl rfl | exact .inr rfl)) (pss_one (ps_set (i := 3) sc_law_deal.nd rfl (by first | exact .inl rfl | exact .inr rfl) (pe_op op_mod (pe_callTy call_int1 (by rfl) T.z_int (by decide +kernel) (pa_cons (pe_op op_add (pe_op op_add (pe_op op_mul (pv 3) pe_int) (pe_op op_mod (pe_callTy call_int1 (by rfl) T.z_int (by decide +kernel) (pa_cons (pv 4) pa_nil)) pe_int)) pe_int) pa_nil)) pe_int))))
      (pss_one (ps_ret (pe_lst (pa_cons (pe_revL (pe_lc (own := [("_law_cell", 4)]) (g := gName 4) rfl sc_law_deal.nd (pi_list (pv 2)) (blkOk_by (own := [("_law_cell", 4)]) (N := ["_law_script", "_law_base", "_law_cells", "_law_mixed_here", "_law_cell"]) (sc := defScope s_law_deal) (by decide +kernel)) (fun _ _ _ _ _ => pg_name (i := 4) sc_law_deal.nd rfl (Or.inl rfl)) (fun _ _ _ _ _ => pts_one (pt_cmpR op_ge (pv 4) (pe_op op_pow pe_int pe_int) (nomark _))) (fun _ _ _ _ _ => (pv 4)))) (pa_cons (pv 3) pa_nil)))))))), ?_⟩
    obtain ⟨js, hjs, hlen⟩ := cutI is (some 0) (some 61)
    have hlen2 : js.length ≤ 61 := by
      have e : HT.sIx is.length is.length (some 61) = min 61 is.length := HT.sIx_nat is.length is.length 61
      rw [e] at hlen
      omega
    have get : ∀ {x : V} {i : Nat}, (cutV (is.map V.int) (some 0) (some 61))[i]? = some x → x = .int (js.getD i 0) := fun {x i} e => by
      rw [hjs, List.getElem?_map] at e
      cases h2 : js[i]? with
      | none => rw [h2] at e; cases e
      | some z =>
        rw [h2] at e
        cases e
        rw [List.getD_eq_getElem?_getD, h2]
        rfl
    generalize hcs : ((List.range js.length).filter fun _ => true).map (fun i => (if js.getD i 0 < 0 then -js.getD i 0 else js.getD i 0)) = cs
    have cs0 : ∀ c, c ∈ cs → 0 ≤ c := fun c hc => by
      rw [← hcs] at hc
      obtain ⟨i, _, rfl⟩ := List.mem_map.mp hc
      exact abs_nn _
    have csl : cs.length ≤ 61 := by
      rw [← hcs, List.length_map, filter_yes, List.length_range]
      exact hlen2
    refine s_set (R := Free) (H := H) (P := LstN Free (cs.map V.int)) ?_ (Gr.refl free_j) fun u H1 g1 gv1 hp => ?_
    · rw [← hcs, List.map_map]
      refine ev_lcV (R := Free) (Y := YAt (cutV (is.map V.int) (some 0) (some 61))) (n := js.length) (Z := fun i x => (cutV (is.map V.int) (some 0) (some 61))[i]? = some x) (fun i => .int (if js.getD i 0 < 0 then -js.getD i 0 else js.getD i 0)) (fun _ => true) ?_ (by omega) yAt_ok (fun x => rfl) (fun D hD i x hi z => ⟨et_yes, fun _ => ?_⟩)
      · have hw := ew_list (K := K) (ev_L (ev_slL (K := K) (R := Free) (σ := L2.start ["_law_script", "_law_base", "_law_cells", "_law_mixed_here", "_law_cell"] [.ref l, .int 0]) (H := H) (lo := some 0) (hi := some 61) (ta := tVar 0) (to1 := tPart (tVar 1)) (to2 := tPart (tC (.int 61))) (ev_var rfl fun H' g => ⟨l, rfl, fun H2 g2 => (SqL.ext hl (g.tr g2).free)⟩) (eo_some (ev_is rfl)) (eo_some ev_c)))
        have e : (cutV (is.map V.int) (some 0) (some 61)).length = js.length := by rw [hjs, List.length_map]
        rw [e] at hw
        exact hw
      · exact ev_abs (ev_int1 (ev_is (show _ = some (some (V.int (js.getD i 0))) from get z ▸ rfl)))
    obtain ⟨p, rfl, hp, hd⟩ := hp
    dsimp only
    refine s_set (R := Free) (H := H1) (P := Is (.int 32452867)) ?_ (Gr.refl free_j) fun u H2 g2 gv2 e => ?_
    · exact ev_I0 (g := fun i j => .int (i + j)) (i := 32452867) (j := 0) ev_c (ev_I (C := CMul) (g := fun i j => .int (i * j)) (i := 43) (j := 0) (.inl (by decide)) ev_c (ev_is rfl))
    cases e
    dsimp only
    have hp2 : H2 p = some (.lst (cs.map V.int)) := g2.2 p _ hp hd.1 hd.2
    refine s_for (R := Free) (H := H2) (n := cs.length) (Y := YAt (cs.map V.int)) ?_ (Gr.refl free_j) fun H3 g3 gv3 => ⟨fun i σ' H' => Gr Free H3 H' ∧ ∃ (mm : Int) (y : Option V), 0 ≤ mm ∧ mm < 2147483647 ∧ σ' = [some (.ref l), some (.int 0), some (.ref p), some (.int mm), y], ⟨Gr.refl free_j, 32452867, none, by decide, by decide, rfl⟩, fun i σ' H' _ h => h.1, ?_, ?_⟩
    · have hw := ew_list (K := K) (ev_L (ev_varLN (R := Free) (σ := [some (.ref l), some (.int 0), some (.ref p), some (.int 32452867), none]) (i := 2) rfl hp2 hd))
      rw [List.length_map] at hw
      exact hw
    · rintro i x σ' H' H4 hi ⟨g4, mm, y, m0, m1, rfl⟩ ⟨rfl, hx⟩
      obtain ⟨c, hc, rfl⟩ : ∃ c : Int, c ∈ cs ∧ x = .int c := by
        obtain ⟨c, hc, e⟩ := List.mem_map.mp (List.mem_of_getElem? hx)
        exact ⟨c, hc, e.symm⟩
      refine s_set (R := Free) (H := H4) (σ := [some (.ref l), some (.int 0), some (.ref p), some (.int mm), some (.int c)]) (P := Is (.int ((mm * 48271 + c % 2147483629 + 23) % 2147483647))) ?_ (Gr.refl free_j) fun u H5 g5 gv5 e => ?_
      · refine ev_I (C := fun _ j => 0 < j) (g := fun i j => .int (i % j)) (j := 2147483647) (by decide) (ev_int1 (ev_I0 (g := fun i j => .int (i + j)) (ev_I0 (g := fun i j => .int (i + j)) (ev_I (C := CMul) (g := fun i j => .int (i * j)) (i := mm) (j := 48271) (.inr (by decide)) (ev_is rfl) ev_c) (ev_I (C := fun _ j => 0 < j) (g := fun i j => .int (i % j)) (i := c) (j := 2147483629) (by decide) (ev_int1 (ev_is rfl)) ev_c)) ev_c)) ev_c
      · cases e
        exact ⟨g4.tr g5, _, some (.int c), Int.emod_nonneg _ (by decide), Int.emod_lt_of_pos _ (by decide), rfl⟩
    · rintro σ' H4 ⟨g4, mm, y, m0, m1, rfl⟩
      have hp4 : H4 p = some (.lst (cs.map V.int)) := (g3.tr g4).2 p _ hp2 hd.1 hd.2
      generalize hds : ((List.range cs.length).filter fun i => decide (10 ^ 18 ≤ cs.getD i 0)).map (fun i => cs.getD i 0) = ds
      have ds0 : ∀ c, c ∈ ds.reverse → 0 ≤ c := fun c hc => by
        rw [List.mem_reverse, ← hds] at hc
        obtain ⟨i, hi, rfl⟩ := List.mem_map.mp hc
        have hi2 := List.mem_range.mp (List.mem_filter.mp hi).1
        rw [List.getD_eq_getElem?_getD, List.getElem?_eq_getElem hi2]
        exact cs0 _ (List.getElem_mem hi2)
      have dsl : ds.reverse.length ≤ 64 := by
        rw [List.length_reverse, ← hds, List.length_map]
        have := List.length_filter_le (fun i => decide (10 ^ 18 ≤ cs.getD i 0)) (List.range cs.length)
        rw [List.length_range] at this
        omega
      have get4 : ∀ {x : V} {i : Nat}, (cs.map V.int)[i]? = some x → x = .int (cs.getD i 0) := fun {x i} e => by
        rw [List.getElem?_map] at e
        cases h2 : cs[i]? with
        | none => rw [h2] at e; cases e
        | some z =>
          rw [h2] at e
          cases e
          rw [List.getD_eq_getElem?_getD, h2]
          rfl
      have hev : EvP Free (tLc (iList K (tVar 2)) (gName 4) (tTest (tOp (rI0 fun i j => .bl (decide (j ≤ i))) (tVar 4) (tOp (rI CPow fun i j => .int (i ^ j.toNat)) (tC (.int 10)) (tC (.int 18))))) (tVar 4) [4]) [some (.ref l), some (.int 0), some (.ref p), some (.int mm), y] H4 (LstN Free (ds.map V.int)) := by
        rw [← hds, List.map_map]
        refine ev_lcV (R := Free) (Y := YAt (cs.map V.int)) (n := cs.length) (Z := fun i x => (cs.map V.int)[i]? = some x) (fun i => .int (cs.getD i 0)) (fun i => decide (10 ^ 18 ≤ cs.getD i 0)) ?_ (by omega) yAt_ok (fun x => rfl) (fun D hD i x hi z => ⟨?_, fun _ => ?_⟩)
        · have hw := ew_list (K := K) (ev_L (ev_varLN (R := Free) (σ := [some (.ref l), some (.int 0), some (.ref p), some (.int mm), y]) (i := 2) rfl hp4 hd))
          rw [List.length_map] at hw
          exact hw
        · have e := get4 z
          subst e
          exact et_test (ev_I0 (g := fun i j => .bl (decide (j ≤ i))) (i := cs.getD i 0) (j := 10 ^ 18) (ev_is rfl) (ev_I (C := CPow) (g := fun i j => .int (i ^ j.toNat)) (i := 10) (j := 18) ⟨by decide, by decide, by decide⟩ ev_c ev_c))
        · have e := get4 z
          subst e
          exact ev_is rfl
      dsimp only
      refine s_retL (R := Free) (H := H4) (ea_cons stb_lstN (ev_revL (K := K) (ev_L hev)) (ea_is (v := .int mm) (ev_is (i := 3) rfl) ea_nil)) (Gr.refl free_j) fun vs H5 g5 ps => ?_
      match vs, ps with
      | [u1, u2], ⟨⟨b, e1, hb, _⟩, e2, _⟩ =>
        cases e1; cases e2
        refine ⟨(show 2 ≤ 1000 by decide), fun a ha => q a b _ ⟨ds.reverse, mm, upd_same, ?_, ds0, dsl, m0, m1⟩⟩
        rw [upd_ne (ne_of_none hb ha), List.map_reverse]
        exact hb
def spPick : Sp := fun vs H Q _ => ∃ a b p xs, vs = [.ref a, .ref p] ∧ DealJ a b H ∧ H p = some (.lst xs) ∧ p ≠ a ∧ p ≠ b ∧ 0 < xs.length ∧ xs.length ≤ 1000 ∧ ∀ v H', v ∈ xs → DealJ a b H' → Rest a b H H' → Q v H'
theorem ok_pick (T : Tx A K mg) (c_law_draw : CalX P w K mg base CX0 1 "_law_draw" spDraw) {f : Addr} {fd : FuncData} (F : Fun K "_law_pick" "_law_pick" s_law_pick f fd) : FnOk P w K mg base CX0 2 f fd ["_law_deal_here", "_law_some"] spPick := by
  refine F.ok sc_law_pick (fun vs H Q E h => ?_) (fun cdv A' outer s H vs Q E hr h => ?_)
  · obtain ⟨a, b, p, xs, rfl, _⟩ := h; rfl
  · obtain ⟨a, b, p, xs, rfl, hd, hp, na, nb, x0, x1, q⟩ := h
    refine ⟨_, (pss_one (ps_ret (pe_ix ix_list (pv 1) (pe_cal c_law_draw hr (by decide) pass0 (pa_cons (pv 0) (pa_cons (pe_callB call_len_seq (by rfl) T.z_len (by decide +kernel) (pa_cons (pv 1) pa_nil)) pa_nil))) (fun _ _ => rfl)))), ?_⟩
    refine s_ret (R := DealR a b) (H := H) (P := fun v _ => v ∈ xs) ?_ (Gr.refl hd) fun v H1 g _ hv => q v H1 hv (gr_deal g).1 (gr_deal g).2
    refine ev_op stb_lstN (ev_varLN rfl hp (off_deal na nb)) (ev_draw isDeal_R (n := (xs.length : Int)) (ev_is rfl) (ev_len (ev_imp (ev_varLN (R := DealR a b) rfl hp (off_deal na nb)) fun u H' g ⟨p', e, h, _⟩ => ⟨p', e, .inl (.inl (.inl h))⟩)) (by omega) (by omega)) fun x y H1 g hx hy Q' q' => ?_
    obtain ⟨p', rfl, h1, _⟩ := hx
    obtain ⟨i, rfl, i0, i1⟩ := hy
    have hi : i.toNat < xs.length := by omega
    have ei : ((i.toNat : Nat) : Int) = i := Int.toNat_of_nonneg i0
    refine ⟨p', xs, i, xs[i.toNat], rfl, rfl, .inl (.inl h1), ?_, q' _ H1 (Gv.refl g.1) (List.getElem_mem hi)⟩
    have z := atI_nat (xs := xs) (j := i.toNat) (List.getElem?_eq_getElem hi)
    rw [ei] at z
    exact z
end
section
variable {P : Program} {w : World} {A : Ads} {K : PySem.W.Frag} {mg : Str → Option Value} {base : Heap}
theorem eraseS : ∀ (l : List Str) (j : Nat), (l.map V.str).eraseIdx j = (l.eraseIdx j).map V.str
  | [], _ => rfl
  | _ :: _, 0 => rfl
  | z :: l, j + 1 => congrArg (V.str z :: ·) (eraseS l j)
def spMixed : Sp := fun vs H Q _ => ∃ (a b p : Addr) (zs : List Str), vs = [.ref a, .ref p] ∧ DealJ a b H ∧ H p = some (.lst (zs.map V.str)) ∧ p ≠ a ∧ p ≠ b ∧ zs.length ≤ 100 ∧ (∀ z, z ∈ zs → PyData.strOk z = true) ∧
  ∀ (q : Addr) (ys : List Str) (H' : Hp), ys.length = zs.length → (∀ y, y ∈ ys → y ∈ zs) → H q = none → H' q = some (.lst (ys.map V.str)) → DealJ a b H' → Rest a b H H' → Q (.ref q) H'
theorem ok_mixed (T : Tx A K mg) (c_law_draw : CalX P w K mg base CX0 1 "_law_draw" spDraw) {f : Addr} {fd : FuncData} (F : Fun K "_law_mixed" "_law_mixed" s_law_mixed f fd) : FnOk P w K mg base CX0 2 f fd ["_law_deal_here", "_law_some"] spMixed := by
  refine F.ok sc_law_mixed (fun vs H Q E h => ?_) (fun cdv A' outer s H vs Q E hr h => ?_)
  · obtain ⟨a, b, p, zs, rfl, _⟩ := h; rfl
  · obtain ⟨a, b, p, zs, rfl, hd, hp, na, nb, zl, ok, q⟩ := h
    refine ⟨_, (pss_cons (ps_par (i := 2) (j := 3) (by rfl) sc_law_mixed.nd rfl rfl (by decide) rfl rfl (pa_cons (pe_callTy call_list_of (by rfl) T.z_list (by decide +kernel) (pa_cons (pv 1) pa_nil)) (pa_cons (pe_lst pa_nil) pa_nil)) (by rfl))
      (pss_cons (ps_while PassesOwn.never (pt_cmpR (op_neD hr.units) (pv 2) (pe_lst pa_nil) (nomark _)) (pss_one (ps_expr (pe_bm PySem.F.plainAttrs_list PySem.F.slot_list_append PySem.F.type_list_append mt_append (pv 3) (pa_cons (pe_bm PySem.F.plainAttrs_list PySem.F.slot_list_pop PySem.F.type_list_pop mt_popAt (pv 2) (pa_cons (pe_cal c_law_draw hr (by decide) pass0 (pa_cons (pv 0) (pa_cons (pe_callB call_len_seq (by rfl) T.z_len (by decide +kernel) (pa_cons (pv 2) pa_nil)) pa_nil))) pa_nil)) pa_nil)))))
      (pss_one (ps_ret (pv 3))))), ?_⟩
    -- the two lists are new
    refine ⟨.ref p, rfl, p, zs.map V.str, rfl, .inl (.inl (.inl hp)), fun pl hpl => ⟨(by decide : 0 ≤ sizeLine), fun pf hpf => ⟨.ref pl, .ref pf, rfl, ?_⟩⟩⟩
    have nfl : pf ≠ pl := fun e => by rw [e, upd_same] at hpf; cases hpf
    have hpf0 : H pf = none := by rw [upd_ne nfl] at hpf; exact hpf
    have offN : ∀ {x : Addr}, H x = none → x ≠ a ∧ x ≠ b := fun {x} hx => deal_off (off (R := DealR a b) hd hx)
    obtain ⟨la, lb⟩ := offN hpl
    obtain ⟨fa, fb⟩ := offN hpf0
    have hf2 : (upd (upd H pl (.lst (zs.map V.str))) pf (.lst [])) pf = some (.lst (([] : List Str).map V.str)) := upd_same
    have hl2 : (upd (upd H pl (.lst (zs.map V.str))) pf (.lst [])) pl = some (.lst (zs.map V.str)) := by rw [upd_ne fun e => nfl e.symm, upd_same]
    have sm : Same H (upd (upd H pl (.lst (zs.map V.str))) pf (.lst [])) := fun x o e => same_new hpf x o (same_new hpl x o e)
    have hd2 : DealJ a b (upd (upd H pl (.lst (zs.map V.str))) pf (.lst [])) := (Gv.same (R := DealR a b) hd sm).1.1
    have re2 : Rest a b H (upd (upd H pl (.lst (zs.map V.str))) pf (.lst [])) := .same sm
    generalize upd (upd H pl (.lst (zs.map V.str))) pf (.lst []) = H2 at hf2 hl2 hd2 re2
    show tSeq _ _ _ [some (.ref a), some (.ref p), some (.ref pl), some (.ref pf)] H2
    -- what is new may change
    have keep : ∀ {H3 H4 : Hp}, Rest a b H H3 → (∀ x, x ≠ pl → x ≠ pf → x ≠ a → x ≠ b → H4 x = H3 x) → Rest a b H H4 := fun {H3 H4} r k x o n1 n2 e => by
      have n3 : x ≠ pl := fun z => by rw [z, hpl] at e; cases e
      have n4 : x ≠ pf := fun z => by rw [z, hpf0] at e; cases e
      rw [k x n3 n4 n1 n2]
      exact r x o n1 n2 e
    refine s_while (R := DealR a b) (fun k σ' H' => ∃ ls fs : List Str, k = ls.length ∧ σ' = [some (.ref a), some (.ref p), some (.ref pl), some (.ref pf)] ∧ DealJ a b H' ∧ Rest a b H H' ∧ H' pl = some (.lst (ls.map V.str)) ∧ H' pf = some (.lst (fs.map V.str)) ∧ fs.length + ls.length = zs.length ∧ (∀ y, y ∈ ls → y ∈ zs) ∧ ∀ y, y ∈ fs → y ∈ zs)
      zs.length ⟨zs, [], rfl, rfl, hd2, re2, hl2, hf2, Nat.zero_add _, fun _ h => h, fun _ h => absurd h List.not_mem_nil⟩ fun k σ' H' hw => ?_
    obtain ⟨ls, fs, rfl, rfl, hd3, re3, hl3, hf3, len, inl, inf⟩ := hw
    refine ⟨!ls.isEmpty, ?_, Gr.refl hd3, fun hb H1 g1 => ?_, fun hb H1 g1 => ?_⟩
    · rw [← eqv_nilS]
      exact et_test (ev_neD (shaped_strs ls fun z hz => ok z (inl z hz)) (by decide +kernel) (ev_strsD (ev_varLN (R := DealR a b) rfl hl3 (off_deal la lb))) (ev_lstD (ds := []) ea_nil (by decide)))
    · have hl4 : H1 pl = some (.lst (ls.map V.str)) := g1.1.2 pl _ hl3 (off_deal la lb).1 (off_deal la lb).2
      have hf4 : H1 pf = some (.lst (fs.map V.str)) := g1.1.2 pf _ hf3 (off_deal fa fb).1 (off_deal fa fb).2
      have n0 : 0 < ls.length := by
        cases ls with
        | nil => exact nomatch hb
        | cons l ls => exact Nat.succ_pos _
      refine ⟨fun σ2 H2 => ∃ ls2 fs2 : List Str, ls2.length < ls.length ∧ σ2 = [some (.ref a), some (.ref p), some (.ref pl), some (.ref pf)] ∧ DealJ a b H2 ∧ Rest a b H H2 ∧ H2 pl = some (.lst (ls2.map V.str)) ∧ H2 pf = some (.lst (fs2.map V.str)) ∧ fs2.length + ls2.length = zs.length ∧ (∀ y, y ∈ ls2 → y ∈ zs) ∧ ∀ y, y ∈ fs2 → y ∈ zs, fun σ2 H2 ⟨ls2, fs2, h, r⟩ => ⟨ls2.length, h, ls2, fs2, rfl, r⟩, ?_⟩
      refine ⟨.ref pf, rfl, .inl ⟨rfl, _, .inl (.inl hf4)⟩, .ref pl, rfl, .inl ⟨rfl, _, .inl (.inl hl4)⟩, ?_⟩
      refine ev_draw (R := DealR a b) isDeal_R (n := (ls.length : Int)) (ev_is rfl) (ev_val (ev_len (xs := ls.map V.str) (ev_imp (ev_varLN (R := DealR a b) rfl hl4 (off_deal la lb)) fun u H' g ⟨p', e, h, _⟩ => ⟨p', e, .inl (.inl (.inl h))⟩)) (by rw [List.length_map])) (by omega) (by omega) H1 (Gr.refl g1.1.1) _ fun u H4 g4 hi => ?_
      obtain ⟨i, rfl, i0, i1⟩ := hi
      have hi : i.toNat < ls.length := by omega
      have hl5 : H4 pl = some (.lst (ls.map V.str)) := g4.1.2 pl _ hl4 (off_deal la lb).1 (off_deal la lb).2
      have hf5 : H4 pf = some (.lst (fs.map V.str)) := g4.1.2 pf _ hf4 (off_deal fa fb).1 (off_deal fa fb).2
      have nlf : pf ≠ pl := nfl
      refine ⟨pl, ls.map V.str, i, i.toNat, .str ls[i.toNat], rfl, rfl, hl5, by omega, by omega, seq_ix i0 (by rw [List.length_map]; exact i1), by rw [List.getElem?_map, List.getElem?_eq_getElem hi]; rfl, ?_⟩
      have hf6 : (upd H4 pl (.lst ((ls.map V.str).eraseIdx i.toNat))) pf = some (.lst (fs.map V.str)) := by rw [upd_ne nfl]; exact hf5
      refine ⟨pf, fs.map V.str, .str ls[i.toNat], rfl, rfl, hf6, ?_, ?_⟩
      · rw [List.length_map]
        exact small1000 (by omega)
      refine ⟨ls.eraseIdx i.toNat, fs ++ [ls[i.toNat]], ?_, rfl, ?_, ?_, ?_, ?_, ?_, ?_, ?_⟩
      · rw [List.length_eraseIdx, if_pos hi]
        omega
      · obtain ⟨cs, m, d1, d2, d3⟩ := (gr_deal g4.1).1
        exact ⟨cs, m, by rw [upd_ne (Ne.symm fa), upd_ne (Ne.symm la)]; exact d1, by rw [upd_ne (Ne.symm fb), upd_ne (Ne.symm lb)]; exact d2, d3⟩
      · refine keep ((re3.trans (gr_deal g1.1).2).trans (gr_deal g4.1).2) fun x n1 n2 _ _ => ?_
        rw [upd_ne n2, upd_ne n1]
      · rw [upd_ne (Ne.symm nfl), upd_same, eraseS]
      · rw [upd_same, List.map_append]
        rfl
      · rw [List.length_eraseIdx, if_pos hi, List.length_append]
        show fs.length + 1 + _ = _
        omega
      · exact fun y hy => inl y (List.mem_of_mem_eraseIdx hy)
      · intro y hy
        rcases List.mem_append.mp hy with h | h
        · exact inf y h
        · rw [List.mem_singleton.mp h]
          exact inl _ (List.getElem_mem hi)
    · have e : ls = [] := by
        cases ls with
        | nil => rfl
        | cons l ls => exact nomatch hb
      subst e
      have hf4 : H1 pf = some (.lst (fs.map V.str)) := g1.1.2 pf _ hf3 (off_deal fa fb).1 (off_deal fa fb).2
      exact ⟨.ref pf, rfl, q pf fs H1 len inf hpf0 hf4 g1.1.1 (re3.trans (gr_deal g1.1).2)⟩
theorem ev_mixed {R : Res} {a b : Addr} (I : IsDeal R a b) {σ : L2.St} {H : Hp} {ta tb : TE} {zs : List Str} {E : XK} (h1 : EvP R ta σ H (Is (.ref a))) (h2 : EvP R tb σ H (LstN R (zs.map V.str))) (hl : zs.length ≤ 100) (ok : ∀ z, z ∈ zs → PyData.strOk z = true) :
    EvP R (tCall spMixed [] E (tCons ta (tCons tb tNil))) σ H (fun u H => ∃ ys : List Str, ys.length = zs.length ∧ (∀ y, y ∈ ys → y ∈ zs) ∧ LstN R (ys.map V.str) u H) :=
  ev_dc I (ea_is h1 (ea_cons stb_lstN h2 ea_nil)) fun vs H1 g ps d Q q => by
    obtain ⟨u, rfl, p, rfl, hp, hd⟩ := psOk_2 ps
    obtain ⟨n1, n2⟩ : p ≠ a ∧ p ≠ b := by
      have := hd.1
      rw [I.d] at this
      simp at this
      exact this
    exact ⟨a, b, p, zs, rfl, d, hp, n1, n2, hl, ok, fun x ys H' e i hn hx d' r => q _ H' d' r ⟨ys, e, i, x, rfl, hx, off g.1 hn⟩⟩
/-- one of these -/
def In (xs : List V) : VP := fun u _ => u ∈ xs
theorem stb_in {R : Res} {xs : List V} : Stb R (In xs) := fun _ _ _ _ h => h
theorem stb_below {R : Res} {n : Int} : Stb R (Below n) := fun _ _ _ _ h => h
theorem ev_pick {R : Res} {a b : Addr} (I : IsDeal R a b) {σ : L2.St} {H : Hp} {ta tb : TE} {xs : List V} {E : XK} (h1 : EvP R ta σ H (Is (.ref a))) (h2 : EvP R tb σ H (LstN R xs)) (n0 : 0 < xs.length) (n1 : xs.length ≤ 1000) :
    EvP R (tCall spPick [] E (tCons ta (tCons tb tNil))) σ H (In xs) :=
  ev_dc I (ea_is h1 (ea_cons stb_lstN h2 ea_nil)) fun vs H1 g ps d Q q => by
    obtain ⟨u, rfl, p, rfl, hp, hd⟩ := psOk_2 ps
    obtain ⟨m1, m2⟩ : p ≠ a ∧ p ≠ b := by
      have := hd.1
      rw [I.d] at this
      simp at this
      exact this
    exact ⟨a, b, p, xs, rfl, d, hp, m1, m2, n0, n1, fun v H' hv d' r => q v H' d' r hv⟩
/-! ### the names -/
def names13 : List Str := ["none", "in", "out", "a", "ab", "zzzz", "yes", "late", "join", "b", "word", "no", "cut"]
def spNames : Sp := fun vs H Q _ => ∃ (a b : Addr), vs = [.ref a, .int 3] ∧ DealJ a b H ∧ ∀ (q : Addr) (ys : List Str) (H' : Hp), ys.length = 3 → (∀ y, y ∈ ys → y ∈ names13) → q ≠ a → q ≠ b → H' q = some (.lst (ys.map V.str)) → DealJ a b H' → Rest a b H H' → Q (.ref q) H'
theorem ok_names (T : Tx A K mg) (c_law_mixed : CalX P w K mg base CX0 2 "_law_mixed" spMixed) {f : Addr} {fd : FuncData} (F : Fun K "_law_names" "_law_names" s_law_names f fd) : FnOk P w K mg base CX0 3 f fd ["_law_deal_here", "_law_many"] spNames := by
  refine F.ok sc_law_names (fun vs H Q E h => ?_) (fun cdv A' outer s H vs Q E hr h => ?_)
  · obtain ⟨a, b, rfl, _⟩ := h; rfl
  · obtain ⟨a, b, rfl, hd, q⟩ := h
    refine ⟨_, (pss_cons (ps_set (i := 2) sc_law_names.nd rfl (by first | exact .inl rfl | exact .inr rfl) (pe_lst (pa_cons pe_str (pa_cons pe_str (pa_cons pe_str (pa_cons pe_str (pa_cons pe_str (pa_cons pe_str (pa_cons pe_str (pa_cons pe_str (pa_cons pe_str (pa_cons pe_str (pa_cons pe_str (pa_cons pe_str (pa_cons pe_str pa_nil)))))))))))))))
      (pss_one (ps_ret (pe_slice sl_list (pe_cal c_law_mixed hr (by decide) pass0 (pa_cons (pv 0) (pa_cons (pv 2) pa_nil))) po_none (po_some (pv 1)))))), ?_⟩
    refine s_set (R := DealR a b) (H := H) (P := LstN (DealR a b) (names13.map V.str)) ?_ (Gr.refl hd) fun u H1 g1 gv1 hp => ?_
    · exact ev_lstN (ea_is ev_c (ea_is ev_c (ea_is ev_c (ea_is ev_c (ea_is ev_c (ea_is ev_c (ea_is ev_c (ea_is ev_c (ea_is ev_c (ea_is ev_c (ea_is ev_c (ea_is ev_c (ea_is ev_c ea_nil))))))))))))) (by decide)
    obtain ⟨p, rfl, hp, hpd⟩ := hp
    dsimp only
    refine s_ret (R := DealR a b) (H := H1) (P := fun u H' => ∃ ys : List Str, ys.length = 3 ∧ (∀ y, y ∈ ys → y ∈ names13) ∧ LstN (DealR a b) (ys.map V.str) u H') ?_ (Gr.refl gv1.1.1) fun u H2 g2 gv2 ⟨ys, e, i, x, hx, hx2, hx3⟩ => ?_
    · refine ev_imp (ev_slE (K := K) (φ := fun xs => ∃ ys : List Str, xs = ys.map V.str ∧ ys.length = 13 ∧ ∀ y, y ∈ ys → y ∈ names13) (lo := none) (hi := some 3) (ev_imp (ev_mixed (R := DealR a b) (zs := names13) isDeal_R (ev_is rfl) (ev_varLN (R := DealR a b) rfl hp hpd) (by decide) (by decide +kernel)) fun u H2 g ⟨ys, e, i, h⟩ => ⟨_, ⟨ys, rfl, e, i⟩, h⟩) eo_none (eo_some (ev_is rfl))) fun u H2 g ⟨xs, ⟨ys, e, l, i⟩, h⟩ => ?_
      subst e
      refine ⟨ys.take 3, by rw [List.length_take, l]; rfl, fun y hy => i y (List.mem_of_mem_take hy), ?_⟩
      have e : cutV (ys.map V.str) none (some 3) = (ys.take 3).map V.str := by
        unfold cutV
        rw [List.length_map, l, List.map_take]
        rfl
      rw [← e]
      exact h
    · cases hx
      obtain ⟨n1, n2⟩ := deal_off hx3
      exact q x ys H2 e i n1 n2 hx2 (gr_deal (g1.tr g2)).1 (gr_deal (g1.tr g2)).2
def spKinds : Sp := fun vs H Q _ => vs = [] ∧ ∀ (q : Addr) (H' : Hp), Same H H' → H q = none → H' q = some (.lst kindsV) → Q (.ref q) H'
theorem ok_kinds (T : Tx A K mg) {f : Addr} {fd : FuncData} (F : Fun K "_law_kinds" "_law_kinds" s_law_kinds f fd) : FnOk P w K mg base CX0 1 f fd [] spKinds := by
  refine F.ok sc_law_kinds (fun vs H Q E h => ?_) (fun cdv A' outer s H vs Q E hr h => ?_)
  · obtain ⟨rfl, _⟩ := h; rfl
  · obtain ⟨rfl, q⟩ := h
    refine ⟨_, (pss_one (ps_ret (pe_lst (pa_cons pe_str (pa_cons pe_str (pa_cons pe_str (pa_cons pe_str (pa_cons pe_str (pa_cons pe_str (pa_cons pe_str (pa_cons pe_str pa_nil))))))))))), ?_⟩
    exact ⟨(by decide : 8 ≤ sizeLine), fun p hp => q p _ (same_new hp) hp upd_same⟩
theorem ev_kinds {R : Res} {σ : L2.St} {H : Hp} {E : XK} : EvP R (tCall spKinds [] E tNil) σ H (LstN R kindsV) := ev_call ea_nil fun vs H1 g ps Q q => by
  match vs, ps with
  | [], _ => exact ⟨rfl, fun p H' e hn hp => q _ H' (Gv.same g.1 e) ⟨p, rfl, hp, off g.1 hn⟩⟩
/-! ### rows as tuples -/
def namesA : List V := names13.map V.str ++ [.str "any"]
def namesS : List V := names13.map V.str ++ [.str "same"]
def namesO : List V := names13.map V.str ++ [.str "one", .str "other"]
def RowD.tup : RowD → List V
  | .step k o t a => [.str "step", .str k, .str o, .str t, .int a]
  | .join h o t a => [.str "join", .str h, .str o, .str t, .int a]
  | .part o l r a m => [.str "part", .str o, .str l, .str r, .int a, .int m]
def RowD.drawn : RowD → Prop
  | .step k o t a => .str k ∈ kindsV ∧ .str o ∈ namesA ∧ .str t ∈ namesS ∧ addOk a = true
  | .join h o t a => .str h ∈ namesA ∧ .str o ∈ namesA ∧ .str t ∈ namesO ∧ addOk a = true
  | .part o l r a m => .str o ∈ namesA ∧ .str l ∈ namesS ∧ .str r ∈ namesS ∧ addOk a = true ∧ addOk m = true
theorem in_names {ms : List Str} {ws : List V} {v : V} (h : v ∈ ms.map V.str ++ ws) (hm : ∀ m, m ∈ ms → m ∈ names13) (hw : ∀ x, x ∈ ws → ∃ z, x = .str z) : ∃ z, v = .str z ∧ v ∈ names13.map V.str ++ ws := by
  rcases List.mem_append.mp h with h | h
  · obtain ⟨z, hz, rfl⟩ := List.mem_map.mp h
    exact ⟨z, rfl, List.mem_append_left _ (List.mem_map_of_mem (hm z hz))⟩
  · obtain ⟨z, rfl⟩ := hw v h
    exact ⟨z, rfl, List.mem_append_right _ h⟩
theorem add7 {i : Int} (h0 : 0 ≤ i) (h1 : i < 7) : addOk (i - 3) = true := by
  unfold addOk
  rw [decide_eq_true (by omega), decide_eq_true (by omega)]
  rfl
def spAny : Sp := fun vs H Q _ => ∃ (a b p : Addr) (ms : List Str), vs = [.ref a, .ref p] ∧ DealJ a b H ∧ H p = some (.lst (ms.map V.str)) ∧ p ≠ a ∧ p ≠ b ∧ ms.length = 3 ∧ (∀ m, m ∈ ms → m ∈ names13) ∧
  ∀ (t : Addr) (r : RowD) (H' : Hp), r.drawn → H t = none → H' t = some (.tup r.tup) → DealJ a b H' → Rest a b H H' → Q (.ref t) H'
theorem ok_any (T : Tx A K mg) (c_law_draw : CalX P w K mg base CX0 1 "_law_draw" spDraw) (c_law_pick : CalX P w K mg base CX0 2 "_law_pick" spPick) (c_law_kinds : CalX P w K mg base CX0 1 "_law_kinds" spKinds) {f : Addr} {fd : FuncData} (F : Fun K "_law_any_row" "_law_any_row" s_law_any_row f fd) : FnOk P w K mg base CX0 3 f fd ["_law_deal_here", "_law_marks"] spAny := by
  refine F.ok sc_law_any_row (fun vs H Q E h => ?_) (fun cdv A' outer s H vs Q E hr h => ?_)
  · obtain ⟨a, b, p, ms, rfl, _⟩ := h; rfl
  · obtain ⟨a, b, p, ms, rfl, hd, hp, na, nb, ml, mi, q⟩ := h
    refine ⟨_, (pss_cons (ps_par (i := 2) (j := 3) (by rfl) sc_law_any_row.nd rfl rfl (by decide) rfl rfl (pa_cons (pe_cal c_law_draw hr (by decide) pass0 (pa_cons (pv 0) (pa_cons pe_int pa_nil))) (pa_cons (pe_op op_sub (pe_cal c_law_draw hr (by decide) pass0 (pa_cons (pv 0) (pa_cons pe_int pa_nil))) pe_int) pa_nil)) (by rfl))
      (pss_cons (ps_set (i := 4) sc_law_any_row.nd rfl (by first | exact .inl rfl | exact .inr rfl) (pe_op op_cat (pv 1) (pe_lst (pa_cons pe_str pa_nil))))
      (pss_cons (ps_if (pt_cmpR op_eq (pv 2) pe_int (nomark _)) (pss_one (ps_ret (pe_tup (pa_cons pe_str (pa_cons (pe_cal c_law_pick hr (by decide) pass0 (pa_cons (pv 0) (pa_cons (pv 4) pa_nil))) (pa_cons (pe_cal c_law_pick hr (by decide) pass0 (pa_cons (pv 0) (pa_cons (pv 4) pa_nil))) (pa_cons (pe_cal c_law_pick hr (by decide) pass0 (pa_cons (pv 0) (pa_cons (pe_op op_cat (pv 1) (pe_lst (pa_cons pe_str (pa_cons pe_str pa_nil)))) pa_nil))) (pa_cons (pv 3) pa_nil)))))))) pss_nil)
      (pss_cons (ps_if (pt_cmpR op_eq (pv 2) pe_int (nomark _)) (pss_cons (ps_par (i := 5) (j := 6) (by rfl) sc_law_any_row.nd rfl rfl (by decide) rfl rfl (pa_cons (pe_cal c_law_pick hr (by decide) pass0 (pa_cons (pv 0) (pa_cons (pe_op op_cat (pv 1) (pe_lst (pa_cons pe_str pa_nil))) pa_nil))) (pa_cons (pe_cal c_law_pick hr (by decide) pass0 (pa_cons (pv 0) (pa_cons (pe_op op_cat (pv 1) (pe_lst (pa_cons pe_str pa_nil))) pa_nil))) pa_nil)) (by rfl))
      (pss_one (ps_ret (pe_tup (pa_cons pe_str (pa_cons (pe_cal c_law_pick hr (by decide) pass0 (pa_cons (pv 0) (pa_cons (pv 4) pa_nil))) (pa_cons (pv 5) (pa_cons (pv 6) (pa_cons (pv 3) (pa_cons (pe_op op_sub (pe_cal c_law_draw hr (by decide) pass0 (pa_cons (pv 0) (pa_cons pe_int pa_nil))) pe_int) pa_nil)))))))))) pss_nil)
      (pss_one (ps_ret (pe_tup (pa_cons pe_str (pa_cons (pe_cal c_law_pick hr (by decide) pass0 (pa_cons (pv 0) (pa_cons (pe_cal0 c_law_kinds hr (by decide) pass0) pa_nil))) (pa_cons (pe_cal c_law_pick hr (by decide) pass0 (pa_cons (pv 0) (pa_cons (pv 4) pa_nil))) (pa_cons (pe_cal c_law_pick hr (by decide) pass0 (pa_cons (pv 0) (pa_cons (pe_op op_cat (pv 1) (pe_lst (pa_cons pe_str pa_nil))) pa_nil))) (pa_cons (pv 3) pa_nil)))))))))))), ?_⟩
    have I : IsDeal (DealR a b) a b := isDeal_R
    refine s_par (R := DealR a b) (H := H) (P1 := Below 4) (P2 := fun u _ => ∃ i : Int, u = .int i ∧ addOk i = true) ?_ (Gr.refl hd) fun u1 u2 H1 g1 gv1 h1 h2 => ?_
    · refine ea_cons stb_below (ev_draw I (ev_is rfl) ev_c (by decide) (by decide)) (ea_cons (fun _ _ _ _ h => h) ?_ ea_nil)
      refine ev_op (R := DealR a b) stb_below (ev_draw I (n := 7) (ev_is rfl) ev_c (by decide) (by decide)) ev_c fun x y H1 g hx hy Q q => ?_
      obtain ⟨i, rfl, i0, i1⟩ := hx
      cases hy
      exact ⟨i, 3, rfl, rfl, q _ H1 (Gv.refl g.1) ⟨i - 3, rfl, add7 i0 i1⟩⟩
    obtain ⟨form, rfl, f0, f1⟩ := h1
    obtain ⟨add, rfl, ha⟩ := h2
    dsimp only
    have offp := off_deal na nb
    have fin : ∀ {H4 : Hp} (r : RowD), Gr (DealR a b) H H4 → r.drawn → r.tup.length ≤ 1000 ∧ ∀ x, H4 x = none → Q (.ref x) (upd H4 x (.tup r.tup)) := fun {H4} r g d => ⟨by cases r <;> exact Nat.le_of_ble_eq_true rfl, fun x hx => by
      have g5 := g.trans (Gv.new (o := .tup r.tup) g.1 hx)
      exact q x r _ d (g.back hx) upd_same (gr_deal g5).1 (gr_deal g5).2⟩
    have ms1 : H1 p = some (.lst (ms.map V.str)) := g1.2 p _ hp offp.1 offp.2
    refine s_set (R := DealR a b) (H := H1) (P := LstN (DealR a b) (ms.map V.str ++ [V.str "any"])) (ev_cat (ev_varLN (R := DealR a b) rfl ms1 offp) (ev_lstN (ea_is ev_c ea_nil) (by decide)) (by rw [List.length_map, ml]; decide)) (Gr.refl gv1.1.1) fun u H2 g2 gv2 h2 => ?_
    obtain ⟨s4, rfl, hs4, ds4⟩ := h2
    dsimp only
    show tSeq _ _ _ [some (.ref a), some (.ref p), some (.int form), some (.int add), some (.ref s4), none, none] H2
    have ms2 : H2 p = some (.lst (ms.map V.str)) := g2.2 p _ ms1 offp.1 offp.2
    have pkA : ∀ {y5 y6 : Option V} {H'}, Gr (DealR a b) H2 H' → EvP (DealR a b) (tCall spPick [] E0 (tCons (tVar 0) (tCons (tVar 4) tNil))) [some (.ref a), some (.ref p), some (.int form), some (.int add), some (.ref s4), y5, y6] H' (In (ms.map V.str ++ [V.str "any"])) := fun {y5 y6 H'} g =>
      ev_pick I (ev_is rfl) (ev_varLN (R := DealR a b) rfl (g.2 s4 _ hs4 ds4.1 ds4.2) ds4) (by rw [List.length_append]; simp) (by rw [List.length_append, List.length_map, ml]; decide)
    have mk1 : ∀ {y5 y6 : Option V} {H'}, Gr (DealR a b) H2 H' → EvP (DealR a b) (tVar 1) [some (.ref a), some (.ref p), some (.int form), some (.int add), some (.ref s4), y5, y6] H' (LstN (DealR a b) (ms.map V.str)) := fun {y5 y6 H'} g => ev_varLN (R := DealR a b) rfl (g.2 p _ ms2 offp.1 offp.2) offp
    have pkS : ∀ {y5 y6 : Option V} {H'}, Gr (DealR a b) H2 H' → EvP (DealR a b) (tCall spPick [] E0 (tCons (tVar 0) (tCons (tOp rCat (tVar 1) (tLst (tCons (tC (.str "same")) tNil))) tNil))) [some (.ref a), some (.ref p), some (.int form), some (.int add), some (.ref s4), y5, y6] H' (In (ms.map V.str ++ [V.str "same"])) := fun {y5 y6 H'} g =>
      ev_pick I (ev_is rfl) (ev_cat (mk1 g) (ev_lstN (vs := [V.str "same"]) (ea_is ev_c ea_nil) (by decide)) (by rw [List.length_map, ml]; decide)) (by rw [List.length_append]; simp) (by rw [List.length_append, List.length_map, ml]; decide)
    have pkO : ∀ {y5 y6 : Option V} {H'}, Gr (DealR a b) H2 H' → EvP (DealR a b) (tCall spPick [] E0 (tCons (tVar 0) (tCons (tOp rCat (tVar 1) (tLst (tCons (tC (.str "one")) (tCons (tC (.str "other")) tNil)))) tNil))) [some (.ref a), some (.ref p), some (.int form), some (.int add), some (.ref s4), y5, y6] H' (In (ms.map V.str ++ [V.str "one", V.str "other"])) := fun {y5 y6 H'} g =>
      ev_pick I (ev_is rfl) (ev_cat (mk1 g) (ev_lstN (vs := [V.str "one", V.str "other"]) (ea_is ev_c (ea_is ev_c ea_nil)) (by decide)) (by rw [List.length_map, ml]; decide)) (by rw [List.length_append]; simp) (by rw [List.length_append, List.length_map, ml]; decide)
    have w1 : ∀ {z0 : Str} (x : V), x ∈ [V.str z0] → ∃ z, x = .str z := fun {z0} x h => ⟨_, List.mem_singleton.mp h⟩
    have w2 : ∀ (x : V), x ∈ [V.str "one", V.str "other"] → ∃ z, x = .str z := fun x h => by
      rcases List.mem_cons.mp h with h | h
      · exact ⟨_, h⟩
      · exact w1 x h
    have g02 : Gr (DealR a b) H H2 := g1.tr g2
    refine s_if1 (R := DealR a b) (b := decide (V.int form = V.int 0)) (et_test (ev_eq rfl (ev_is rfl) ev_c)) (Gr.refl g2.1) (fun hb H3 g3 gv3 => ?_) (fun hb H3 g3 gv3 => ?_)
    · refine s_retT (R := DealR a b) (H := H3) (Ps := [Is (V.str "join"), In (ms.map V.str ++ [V.str "any"]), In (ms.map V.str ++ [V.str "any"]), In (ms.map V.str ++ [V.str "one", V.str "other"]), Is (.int add)]) (ea_is ev_c (ea_cons stb_in (pkA g3) (ea_cons stb_in (pkA g3) (ea_cons stb_in (pkO g3) (ea_is (ev_is rfl) ea_nil))))) (Gr.refl g3.1) fun us H4 g4 ps => ?_
      match us, ps with
      | [u1, u2, u3, u4, u5], ⟨e1, h2, h3, h4, e5, _⟩ =>
        cases e1; cases e5
        obtain ⟨z2, rfl, h2⟩ := in_names h2 mi w1
        obtain ⟨z3, rfl, h3⟩ := in_names h3 mi w1
        obtain ⟨z4, rfl, h4⟩ := in_names h4 mi w2
        exact fin (.join z2 z3 z4 add) (g02.tr (g3.tr g4)) ⟨h2, h3, h4, ha⟩
    dsimp only
    refine s_if1 (R := DealR a b) (H := H3) (b := decide (V.int form = V.int 1)) (et_test (ev_eq rfl (ev_is rfl) ev_c)) (Gr.refl g3.1) (fun hb2 H4 g4 gv4 => ?_) (fun hb2 H4 g4 gv4 => ?_)
    · refine s_par (R := DealR a b) (H := H4) (P1 := In (ms.map V.str ++ [V.str "same"])) (P2 := In (ms.map V.str ++ [V.str "same"])) (ea_cons stb_in (pkS (g3.tr g4)) (ea_cons stb_in (pkS (g3.tr g4)) ea_nil)) (Gr.refl g4.1) fun u1 u2 H5 g5 gv5 h1 h2 => ?_
      obtain ⟨z1, rfl, h1⟩ := in_names h1 mi w1
      obtain ⟨z2, rfl, h2⟩ := in_names h2 mi w1
      dsimp only
      show tRet _ _ [some (.ref a), some (.ref p), some (.int form), some (.int add), some (.ref s4), some (.str z1), some (.str z2)] H5
      refine s_retT (R := DealR a b) (H := H5) (Ps := [Is (V.str "part"), In (ms.map V.str ++ [V.str "any"]), Is (.str z1), Is (.str z2), Is (.int add), fun u _ => ∃ i : Int, u = .int i ∧ addOk i = true]) (ea_is ev_c (ea_cons stb_in (pkA ((g3.tr g4).tr g5)) (ea_is (ev_is rfl) (ea_is (ev_is rfl) (ea_is (ev_is rfl) (ea_cons (fun _ _ _ _ h => h) ?_ ea_nil)))))) (Gr.refl g5.1) fun us H6 g6 ps => ?_
      · refine ev_op (R := DealR a b) stb_below (ev_draw I (n := 7) (ev_is rfl) ev_c (by decide) (by decide)) ev_c fun x y H1 g hx hy Q q => ?_
        obtain ⟨i, rfl, i0, i1⟩ := hx
        cases hy
        exact ⟨i, 3, rfl, rfl, q _ H1 (Gv.refl g.1) ⟨i - 3, rfl, add7 i0 i1⟩⟩
      · match us, ps with
        | [u1, u2, u3, u4, u5, u6], ⟨e1, k2, e3, e4, e5, ⟨i, e6, hi⟩, _⟩ =>
          cases e1; cases e3; cases e4; cases e5; cases e6
          obtain ⟨z3, rfl, k2⟩ := in_names k2 mi w1
          exact fin (.part z3 z1 z2 add i) (g02.tr ((g3.tr g4).tr (g5.tr g6))) ⟨k2, h1, h2, ha, hi⟩
    dsimp only
    refine s_retT (R := DealR a b) (H := H4) (Ps := [Is (V.str "step"), In kindsV, In (ms.map V.str ++ [V.str "any"]), In (ms.map V.str ++ [V.str "same"]), Is (.int add)]) (ea_is ev_c (ea_cons stb_in (ev_pick I (ev_is rfl) ev_kinds (by decide) (by decide)) (ea_cons stb_in (pkA (g3.tr g4)) (ea_cons stb_in (pkS (g3.tr g4)) (ea_is (ev_is rfl) ea_nil))))) (Gr.refl g4.1) fun us H5 g5 ps => ?_
    match us, ps with
    | [u1, u2, u3, u4, u5], ⟨e1, h2, h3, h4, e5, _⟩ =>
      cases e1; cases e5
      obtain ⟨z2, rfl⟩ : ∃ z, u2 = .str z := by
        have h2' : u2 ∈ kindsV := h2
        simp [kindsV] at h2'
        rcases h2' with h | h | h | h | h | h | h | h <;> exact ⟨_, h⟩
      obtain ⟨z3, rfl, h3⟩ := in_names h3 mi w1
      obtain ⟨z4, rfl, h4⟩ := in_names h4 mi w1
      exact fin (.step z2 z3 z4 add) (g02.tr ((g3.tr g4).tr g5)) ⟨h2, h3, h4, ha⟩
end
/-! ### tuples of which something is known -/
def TupE (R : Res) (φ : List V → Prop) : VP := fun u H => ∃ xs, φ xs ∧ TupN R xs u H
section
variable {K : PySem.W.Frag} {R : Res} {σ : L2.St} {H Hc : Hp} {ta tb te : TE} {φ ψ : List V → Prop} {xs : List V} {P : VP}
theorem stb_tupE : Stb R (TupE R φ) := fun u H H' g ⟨xs, f, h⟩ => ⟨xs, f, stb_tupN u H H' g h⟩
theorem ev_catE (ha : EvP R ta σ H (TupE R φ)) (hb : EvP R tb σ H (TupE R ψ)) (hl : ∀ xs ys, φ xs → ψ ys → xs.length + ys.length ≤ 1000) : EvP R (tOp (rCatA K) ta tb) σ H (TupE R fun zs => ∃ xs ys, φ xs ∧ ψ ys ∧ zs = xs ++ ys) :=
  ev_op stb_tupE ha hb fun x y H1 g ⟨xs, f, p, e1, h1, d1⟩ ⟨ys, k, p2, e2, h2, d2⟩ Q q => ⟨p, p2, xs, ys, e1, e2, .inl (.inl h1), .inl (.inl h2), small (hl xs ys f k),
    fun e => q _ _ (Gv.refl g.1) ⟨_, ⟨xs, ys, f, k, rfl⟩, p2, rfl, by rw [e]; exact h2, d2⟩, fun _ e => q _ _ (Gv.refl g.1) ⟨_, ⟨xs, ys, f, k, rfl⟩, p, rfl, by rw [e, List.append_nil]; exact h1, d1⟩, fun _ _ l hl' => q _ _ (Gv.new g.1 hl') ⟨_, ⟨xs, ys, f, k, rfl⟩, l, rfl, upd_same, off g.1 hl'⟩⟩
theorem ev_tup1E {ρ : V → Prop} (h : EvP R te σ H fun u _ => ρ u) : EvP R (tTup (tCons te tNil)) σ H (TupE R fun zs => ∃ v, ρ v ∧ zs = [v]) := fun H1 g Q q =>
  (ea_cons (P := fun u _ => ρ u) (fun _ _ _ _ h => h) h ea_nil) H1 g _ fun us H2 g2 ps => by
    match us, ps with
    | [u], ⟨hu, _⟩ => exact ⟨(by decide : 1 ≤ sizeLine), fun p hp => q _ _ (g2.trans (Gv.new g2.1.1 hp)) ⟨[u], ⟨u, hu, rfl⟩, p, rfl, upd_same, off g2.1.1 hp⟩⟩
theorem ev_slAE {lo hi : Option Int} {to1 to2 : TO} (ha : EvP R ta σ H (TupN R xs)) (hl : EvO R to1 σ H lo) (hh : EvO R to2 σ H hi) : EvP R (tSl (rSlA K) ta to1 to2) σ H (TupE R fun zs => zs = cutV xs lo hi) := ev_imp (ev_slA ha hl hh) fun u H' _ h => ⟨_, rfl, h⟩
end
theorem bent_is {xs : List V} {j : Nat} {v : V} (h : j < xs.length) : cutV xs none (some (j : Int)) ++ [v] ++ cutV xs (some ((j : Int) + 1)) none = xs.set j v := by
  unfold cutV
  have e1 : HT.sIx xs.length xs.length (some (j : Int)) = j := by rw [HT.sIx_nat]; omega
  have e2 : HT.sIx xs.length 0 (some ((j : Int) + 1)) = j + 1 := by
    have : ((j : Int) + 1) = ((j + 1 : Nat) : Int) := by omega
    rw [this, HT.sIx_nat]
    omega
  rw [e1, e2, HT.sIx_none, HT.sIx_none, List.set_eq_take_append_cons_drop, if_pos h, List.drop_zero, Nat.sub_zero, List.take_of_length_le (l := List.drop (j + 1) xs) (Nat.le_of_eq (List.length_drop))]
  simp
theorem get_last {r : RowD} {j : Nat} (h : j < r.tup.length) : ∃ v, r.tup[j]? = some v ∧ ((∃ z, v = .str z) ∨ ∃ i, v = .int i) := by
  cases r with
  | step k o t a =>
    match j, h with
    | 0, _ => exact ⟨_, rfl, .inl ⟨_, rfl⟩⟩
    | 1, _ => exact ⟨_, rfl, .inl ⟨_, rfl⟩⟩
    | 2, _ => exact ⟨_, rfl, .inl ⟨_, rfl⟩⟩
    | 3, _ => exact ⟨_, rfl, .inl ⟨_, rfl⟩⟩
    | 4, _ => exact ⟨_, rfl, .inr ⟨_, rfl⟩⟩
  | join k o t a =>
    match j, h with
    | 0, _ => exact ⟨_, rfl, .inl ⟨_, rfl⟩⟩
    | 1, _ => exact ⟨_, rfl, .inl ⟨_, rfl⟩⟩
    | 2, _ => exact ⟨_, rfl, .inl ⟨_, rfl⟩⟩
    | 3, _ => exact ⟨_, rfl, .inl ⟨_, rfl⟩⟩
    | 4, _ => exact ⟨_, rfl, .inr ⟨_, rfl⟩⟩
  | part k o t a m =>
    match j, h with
    | 0, _ => exact ⟨_, rfl, .inl ⟨_, rfl⟩⟩
    | 1, _ => exact ⟨_, rfl, .inl ⟨_, rfl⟩⟩
    | 2, _ => exact ⟨_, rfl, .inl ⟨_, rfl⟩⟩
    | 3, _ => exact ⟨_, rfl, .inl ⟨_, rfl⟩⟩
    | 4, _ => exact ⟨_, rfl, .inr ⟨_, rfl⟩⟩
    | 5, _ => exact ⟨_, rfl, .inr ⟨_, rfl⟩⟩
theorem bent_int {r : RowD} (hd : r.drawn) {j : Nat} {i i' : Int} (hi : r.tup[j]? = some (.int i)) (ha : addOk i' = true) : ∃ r2 : RowD, r2.drawn ∧ r2.tup = r.tup.set j (.int i') := by
  cases r with
  | step k o t a =>
    obtain ⟨d1, d2, d3, d4⟩ := hd
    match j, hi with
    | 4, _ => exact ⟨.step k o t i', ⟨d1, d2, d3, ha⟩, rfl⟩
  | join k o t a =>
    obtain ⟨d1, d2, d3, d4⟩ := hd
    match j, hi with
    | 4, _ => exact ⟨.join k o t i', ⟨d1, d2, d3, ha⟩, rfl⟩
  | part k o t a m =>
    obtain ⟨d1, d2, d3, d4, d5⟩ := hd
    match j, hi with
    | 4, _ => exact ⟨.part k o t i' m, ⟨d1, d2, d3, ha, d5⟩, rfl⟩
    | 5, _ => exact ⟨.part k o t a i', ⟨d1, d2, d3, d4, ha⟩, rfl⟩
def RowD.form : RowD → Str
  | .step .. => "step"
  | .join .. => "join"
  | .part .. => "part"
theorem tup_form (r : RowD) : atI r.tup 0 = some (.str r.form) := by cases r <;> rfl
theorem bent_kind {r : RowD} (hd : r.drawn) (hr : r.form = "step") {v : V} (hv : v ∈ kindsV) : ∃ r2 : RowD, r2.drawn ∧ r2.tup = r.tup.set 1 v := by
  cases r with
  | step k o t a =>
    obtain ⟨z, rfl⟩ : ∃ z, v = .str z := by
      have h2' := hv
      simp [kindsV] at h2'
      rcases h2' with h | h | h | h | h | h | h | h <;> exact ⟨_, h⟩
    exact ⟨.step z o t a, ⟨hv, hd.2⟩, rfl⟩
  | join k o t a => exact absurd hr (show ¬ ("join" : Str) = "step" by decide)
  | part k o t a m => exact absurd hr (show ¬ ("part" : Str) = "step" by decide)
theorem bent_name {r : RowD} (hd : r.drawn) {j : Nat} (h1 : 1 ≤ j) {z z' : Str} (hi : r.tup[j]? = some (.str z)) (hn : ¬ (r.form = "step" ∧ j = 1)) (hz : z' ∈ names13) : ∃ r2 : RowD, r2.drawn ∧ r2.tup = r.tup.set j (.str z') := by
  have in1 : ∀ ws, V.str z' ∈ names13.map V.str ++ ws := fun ws => List.mem_append_left _ (List.mem_map_of_mem hz)
  cases r with
  | step k o t a =>
    obtain ⟨d1, d2, d3, d4⟩ := hd
    match j, h1, hi, hn with
    | 1, _, _, hn => exact absurd ⟨rfl, rfl⟩ hn
    | 2, _, _, _ => exact ⟨.step k z' t a, ⟨d1, in1 _, d3, d4⟩, rfl⟩
    | 3, _, _, _ => exact ⟨.step k o z' a, ⟨d1, d2, in1 _, d4⟩, rfl⟩
    | n + 4, _, hi, _ => match n, hi with | 0, hi => simp [RowD.tup] at hi | 1, hi => simp [RowD.tup] at hi | n + 2, hi => simp [RowD.tup] at hi
  | join k o t a =>
    obtain ⟨d1, d2, d3, d4⟩ := hd
    match j, h1, hi, hn with
    | 1, _, _, _ => exact ⟨.join z' o t a, ⟨in1 _, d2, d3, d4⟩, rfl⟩
    | 2, _, _, _ => exact ⟨.join k z' t a, ⟨d1, in1 _, d3, d4⟩, rfl⟩
    | 3, _, _, _ => exact ⟨.join k o z' a, ⟨d1, d2, in1 _, d4⟩, rfl⟩
    | n + 4, _, hi, _ => match n, hi with | 0, hi => simp [RowD.tup] at hi | 1, hi => simp [RowD.tup] at hi | n + 2, hi => simp [RowD.tup] at hi
  | part k o t a m =>
    obtain ⟨d1, d2, d3, d4⟩ := hd
    match j, h1, hi, hn with
    | 1, _, _, _ => exact ⟨.part z' o t a m, ⟨in1 _, d2, d3, d4⟩, rfl⟩
    | 2, _, _, _ => exact ⟨.part k z' t a m, ⟨d1, in1 _, d3, d4⟩, rfl⟩
    | 3, _, _, _ => exact ⟨.part k o z' a m, ⟨d1, d2, in1 _, d4⟩, rfl⟩
    | n + 4, _, hi, _ => match n, hi with | 0, hi => simp [RowD.tup] at hi | 1, hi => simp [RowD.tup] at hi | n + 2, hi => simp [RowD.tup] at hi
section
variable {P : Program} {w : World} {A : Ads} {K : PySem.W.Frag} {mg : Str → Option Value} {base : Heap}
def spBent : Sp := fun vs H Q _ => ∃ (a b t p : Addr) (r : RowD) (ms : List Str), vs = [.ref a, .ref t, .ref p] ∧ DealJ a b H ∧ H t = some (.tup r.tup) ∧ t ≠ a ∧ t ≠ b ∧ r.drawn ∧ H p = some (.lst (ms.map V.str)) ∧ p ≠ a ∧ p ≠ b ∧ ms.length = 3 ∧ (∀ m, m ∈ ms → m ∈ names13) ∧
  ∀ (t2 : Addr) (r2 : RowD) (H' : Hp), r2.drawn → t2 ≠ a → t2 ≠ b → H' t2 = some (.tup r2.tup) → DealJ a b H' → Rest a b H H' → Q (.ref t2) H'
theorem ok_bent (T : Tx A K mg) (c_law_draw : CalX P w K mg base CX0 1 "_law_draw" spDraw) (c_law_pick : CalX P w K mg base CX0 2 "_law_pick" spPick) (c_law_kinds : CalX P w K mg base CX0 1 "_law_kinds" spKinds) {f : Addr} {fd : FuncData} (F : Fun K "_law_bent" "_law_bent" s_law_bent f fd) : FnOk P w K mg base CX0 3 f fd ["_law_deal_here", "_law_row", "_law_marks"] spBent := by
  refine F.ok sc_law_bent (fun vs H Q E h => ?_) (fun cdv A' outer s H vs Q E hr h => ?_)
  · obtain ⟨a, b, t, p, r, ms, rfl, _⟩ := h; rfl
  · obtain ⟨a, b, t, p, r, ms, rfl, hd, ht, ta, tb, dr, hp, pa, pb, ml, mi, q⟩ := h
    refine ⟨_, (pss_cons (ps_set (i := 3) sc_law_bent.nd rfl (by first | exact .inl rfl | exact .inr rfl) (pe_op op_add pe_int (pe_cal c_law_draw hr (by decide) pass0 (pa_cons (pv 0) (pa_cons (pe_op op_sub (pe_callB call_len_seq (by rfl) T.z_len (by decide +kernel) (pa_cons (pv 1) pa_nil)) pe_int) pa_nil)))))
      (pss_cons (ps_if (pt_val (pe_callB call_isi (by rfl) T.z_isinstance (by decide +kernel) (pa_cons (pe_ix ix_tup (pv 1) (pv 3) (fun _ _ => rfl)) (pa_cons (pe_bltn (v := .ty "int") (by rfl) T.z_int (by decide +kernel) rfl) pa_nil)))) (pss_one (ps_ret (pe_op op_catA (pe_op op_catA (pe_slice sl_tupA (pv 1) po_none (po_some (pv 3))) (pe_tup (pa_cons (pe_op op_sub (pe_cal c_law_draw hr (by decide) pass0 (pa_cons (pv 0) (pa_cons pe_int pa_nil))) pe_int) pa_nil))) (pe_slice sl_tupA (pv 1) (po_some (pe_op op_add (pv 3) pe_int)) po_none)))) pss_nil)
      (pss_cons (ps_if (PW.pt (pw_and (pt_cmpR op_eq (pe_ix ix_tup (pv 1) pe_int (fun _ _ => rfl)) pe_str (nomark _)) (pw_and1 (pt_cmpR op_eq (pv 3) pe_int (nomark _))))) (pss_one (ps_ret (pe_op op_catA (pe_op op_catA (pe_slice sl_tupA (pv 1) po_none (po_some pe_int)) (pe_tup (pa_cons (pe_cal c_law_pick hr (by decide) pass0 (pa_cons (pv 0) (pa_cons (pe_cal0 c_law_kinds hr (by decide) pass0) pa_nil))) pa_nil))) (pe_slice sl_tupA (pv 1) (po_some pe_int) po_none)))) pss_nil)
      (pss_one (ps_ret (pe_op op_catA (pe_op op_catA (pe_slice sl_tupA (pv 1) po_none (po_some (pv 3))) (pe_tup (pa_cons (pe_cal c_law_pick hr (by decide) pass0 (pa_cons (pv 0) (pa_cons (pv 2) pa_nil))) pa_nil))) (pe_slice sl_tupA (pv 1) (po_some (pe_op op_add (pv 3) pe_int)) po_none))))))), ?_⟩
    have I : IsDeal (DealR a b) a b := isDeal_R
    have rl : 5 ≤ r.tup.length ∧ r.tup.length ≤ 6 := by cases r <;> exact ⟨Nat.le_of_ble_eq_true rfl, Nat.le_of_ble_eq_true rfl⟩
    have row : ∀ {y : Option V} {H'}, Gr (DealR a b) H H' → EvP (DealR a b) (tVar 1) [some (.ref a), some (.ref t), some (.ref p), y] H' (TupN (DealR a b) r.tup) := fun {y H'} g => ev_varTN rfl (g.2 t _ ht (off_deal ta tb).1 (off_deal ta tb).2) (off_deal ta tb)
    refine s_set (R := DealR a b) (H := H) (P := fun u _ => ∃ j : Nat, u = .int (j : Int) ∧ 1 ≤ j ∧ j < r.tup.length) ?_ (Gr.refl hd) fun u H1 g1 gv1 hu => ?_
    · refine ev_op (R := DealR a b) stb_is ev_c (ev_draw I (n := (r.tup.length : Int) - 1) (ev_is rfl) (ev_I0 (g := fun i j => .int (i - j)) (ev_len (ev_imp (row (Gr.refl hd)) fun u H' g ⟨p', e, h, _⟩ => ⟨p', e, .inr (.inl (.inl h))⟩)) ev_c) (by omega) (by omega)) fun x y H1 g hx hy Q q => ?_
      obtain ⟨i, rfl, i0, i1⟩ := hy
      cases hx
      refine ⟨1, i, rfl, rfl, q _ H1 (Gv.refl g.1) ⟨(1 + i).toNat, ?_, by omega, by omega⟩⟩
      rw [Int.toNat_of_nonneg (by omega)]
    obtain ⟨j, rfl, j1, j2⟩ := hu
    dsimp only
    show tSeq _ _ _ [some (.ref a), some (.ref t), some (.ref p), some (.int (j : Int))] H1
    obtain ⟨v, hv, hv2⟩ := get_last j2
    have fv : flatV v = true := by rcases hv2 with ⟨z, rfl⟩ | ⟨z, rfl⟩ <;> rfl
    have nb : isB v = false := by rcases hv2 with ⟨z, rfl⟩ | ⟨z, rfl⟩ <;> rfl
    have fin : ∀ {H4 : Hp} {ρ : V → Prop} {u : V}, Gr (DealR a b) H H4 → (∀ v, ρ v → ∃ r2 : RowD, r2.drawn ∧ r2.tup = r.tup.set j v) → TupE (DealR a b) (fun zs => ∃ v, ρ v ∧ zs = r.tup.set j v) u H4 → Q u H4 := fun {H4 ρ u} g k ⟨xs, ⟨v, hv, e⟩, t2, e2, h2, d2⟩ => by
      subst e; subst e2
      obtain ⟨r2, hr2, e⟩ := k v hv
      exact q t2 r2 H4 hr2 (deal_off d2).1 (deal_off d2).2 (by rw [e]; exact h2) (gr_deal g).1 (gr_deal g).2
    have made : ∀ {H' : Hp} {te : TE} {ρ : V → Prop}, Gr (DealR a b) H H' → EvP (DealR a b) te [some (.ref a), some (.ref t), some (.ref p), some (.int (j : Int))] H' (fun u _ => ρ u) →
        EvP (DealR a b) (tOp (rCatA K) (tOp (rCatA K) (tSl (rSlA K) (tVar 1) tNoPart (tPart (tVar 3))) (tTup (tCons te tNil))) (tSl (rSlA K) (tVar 1) (tPart (tOp (rI0 fun i j => .int (i + j)) (tVar 3) (tC (.int 1)))) tNoPart)) [some (.ref a), some (.ref t), some (.ref p), some (.int (j : Int))] H' (TupE (DealR a b) fun zs => ∃ v, ρ v ∧ zs = r.tup.set j v) := fun {H' te ρ} g h => by
      refine ev_imp (ev_catE (ev_catE (ev_slAE (row g) eo_none (eo_some (ev_is rfl))) (ev_tup1E h) ?_) (ev_slAE (row g) (eo_some (ev_I0 (g := fun i j => .int (i + j)) (ev_is rfl) ev_c)) eo_none) ?_) ?_
      · rintro xs ys rfl ⟨v, _, rfl⟩
        have : (cutV r.tup none (some (j : Int))).length ≤ 6 := by unfold cutV; rw [List.length_take, List.length_drop]; omega
        show _ + 1 ≤ _
        omega
      · rintro xs ys ⟨x1, y1, rfl, ⟨v, _, rfl⟩, rfl⟩ rfl
        have : (cutV r.tup none (some (j : Int))).length ≤ 6 := by unfold cutV; rw [List.length_take, List.length_drop]; omega
        have : (cutV r.tup (some ((j : Int) + 1)) none).length ≤ 6 := by unfold cutV; rw [List.length_take, List.length_drop]; omega
        rw [List.length_append]
        show _ + 1 + _ ≤ _
        omega
      · rintro u H2 _ ⟨zs, ⟨x1, y1, ⟨x2, y2, rfl, ⟨v, hv, rfl⟩, rfl⟩, rfl, rfl⟩, h⟩
        exact ⟨_, ⟨v, hv, bent_is j2⟩, h⟩
    have at0 : ∀ {H'}, Gr (DealR a b) H H' → EvP (DealR a b) (tOp (rIxT K) (tVar 1) (tC (.int 0))) [some (.ref a), some (.ref t), some (.ref p), some (.int (j : Int))] H' (Is (.str r.form)) := fun {H'} g => ev_ixT (ev_U (row g)) ev_c (tup_form r)
    refine s_if1 (R := DealR a b) (H := H1) (b := isI v || isB v) (et_B (ev_isi (ev_ixT (ev_U (row g1)) (ev_is rfl) (atI_nat hv)) ev_c (.ty _) (fun _ _ => ty_flat fv) (kit_int fv))) (Gr.refl g1.1) (fun hb H2 g2 gv2 => ?_) (fun hb H2 g2 gv2 => ?_)
    · obtain ⟨i, rfl⟩ : ∃ i, v = .int i := by
        rcases hv2 with ⟨z, rfl⟩ | h
        · exact nomatch hb
        · exact h
      refine s_ret (R := DealR a b) (H := H2) (made (ρ := fun u => ∃ i : Int, u = .int i ∧ addOk i = true) (g1.tr g2) ?_) (Gr.refl g2.1) fun u H3 g3 _ hu => ?_
      · refine ev_op (R := DealR a b) stb_below (ev_draw I (n := 3) (ev_is rfl) ev_c (by decide) (by decide)) ev_c fun x y H1 g hx hy Q q => ?_
        obtain ⟨i, rfl, i0, i1⟩ := hx
        cases hy
        refine ⟨i, 1, rfl, rfl, q _ H1 (Gv.refl g.1) ⟨i - 1, rfl, ?_⟩⟩
        unfold addOk
        rw [decide_eq_true (by omega), decide_eq_true (by omega)]
        rfl
      · refine fin ((g1.tr g2).tr g3) ?_ hu
        rintro v ⟨i', rfl, hi'⟩
        exact bent_int dr hv hi'
    obtain ⟨z, rfl⟩ : ∃ z, v = .str z := by
      rcases hv2 with h | ⟨i, rfl⟩
      · exact h
      · exact nomatch hb
    dsimp only
    refine s_if1 (R := DealR a b) (H := H2) (b := decide (V.str r.form = V.str "step") && decide (V.int (j : Int) = V.int 1)) (et_and (et_test (ev_eq rfl (at0 (g1.tr g2)) ev_c)) fun _ => et_test (ev_eq rfl (ev_is rfl) ev_c)) (Gr.refl g2.1) (fun hb H3 g3 gv3 => ?_) (fun hb H3 g3 gv3 => ?_)
    · obtain ⟨b1, b2⟩ := Bool.and_eq_true_iff.mp hb
      have e1 : r.form = "step" := V.str.inj (of_decide_eq_true b1)
      have e2 : j = 1 := by
        have := V.int.inj (of_decide_eq_true b2)
        omega
      subst e2
      refine s_ret (R := DealR a b) (H := H3) (P := TupE (DealR a b) (fun zs => ∃ v, v ∈ kindsV ∧ zs = r.tup.set 1 v)) ?_ (Gr.refl g3.1) fun u H4 g4 _ hu => ?_
      · refine ev_imp (ev_catE (φ := fun zs => ∃ xs ys, xs = cutV r.tup none (some 1) ∧ (∃ v, v ∈ kindsV ∧ ys = [v]) ∧ zs = xs ++ ys) (ψ := fun zs => zs = cutV r.tup (some 2) none) (ev_catE (ev_slAE (row ((g1.tr g2).tr g3)) eo_none (eo_some ev_c)) (ev_tup1E (ev_pick I (ev_is rfl) ev_kinds (by decide) (by decide))) ?_) (ev_slAE (row ((g1.tr g2).tr g3)) (eo_some ev_c) eo_none) ?_) ?_
        · rintro xs ys rfl ⟨v, _, rfl⟩
          have : (cutV r.tup none (some 1)).length ≤ 6 := by unfold cutV; rw [List.length_take, List.length_drop]; omega
          show _ + 1 ≤ _
          omega
        · rintro xs ys ⟨x1, y1, rfl, ⟨v, _, rfl⟩, rfl⟩ rfl
          have : (cutV r.tup none (some 1)).length ≤ 6 := by unfold cutV; rw [List.length_take, List.length_drop]; omega
          have : (cutV r.tup (some 2) none).length ≤ 6 := by unfold cutV; rw [List.length_take, List.length_drop]; omega
          rw [List.length_append]
          show _ + 1 + _ ≤ _
          omega
        · rintro u H2 _ ⟨zs, ⟨x1, y1, ⟨x2, y2, rfl, ⟨v, hv, rfl⟩, rfl⟩, rfl, rfl⟩, h⟩
          exact ⟨_, ⟨v, hv, bent_is (j := 1) j2⟩, h⟩
      · exact fin (((g1.tr g2).tr g3).tr g4) (fun v hv => bent_kind dr e1 hv) hu
    dsimp only
    refine s_ret (R := DealR a b) (H := H3) (made (ρ := fun u => u ∈ ms.map V.str) ((g1.tr g2).tr g3) (ev_pick I (ev_is rfl) (ev_varLN rfl (((g1.tr g2).tr g3).2 p _ hp (off_deal pa pb).1 (off_deal pa pb).2) (off_deal pa pb)) (by rw [List.length_map, ml]; decide) (by rw [List.length_map, ml]; decide))) (Gr.refl g3.1) fun u H4 g4 _ hu => ?_
    refine fin (((g1.tr g2).tr g3).tr g4) ?_ hu
    rintro v hv
    obtain ⟨z', hz', rfl⟩ := List.mem_map.mp hv
    refine bent_name dr j1 ‹_› (fun ⟨e1, e2⟩ => ?_) (mi z' hz')
    rw [e1, e2] at hb
    exact absurd hb (by decide)
end
/-! ### what is drawn is good -/
def chk (p : Str → Bool) : V → Bool
  | .str z => p z && decide (z.length ≤ 9) && !z.cps.toList.contains 32
  | _ => false
theorem chk_of {xs : List V} {p : Str → Bool} (h : xs.all (chk p) = true) {z : Str} (hz : V.str z ∈ xs) : p z = true ∧ z.length ≤ 9 ∧ z.cps.toList.contains 32 = false := by
  have e := List.all_eq_true.mp h _ hz
  obtain ⟨e1, e2⟩ := Bool.and_eq_true_iff.mp (show (p z && decide (z.length ≤ 9) && !z.cps.toList.contains 32) = true from e)
  obtain ⟨e3, e4⟩ := Bool.and_eq_true_iff.mp e1
  exact ⟨e3, of_decide_eq_true e4, by simpa using e2⟩
theorem chkA : namesA.all (chk fun z => nameOr z [.str "any"]) = true := by decide +kernel
theorem chkS : namesS.all (chk fun z => nameOr z [.str "same"]) = true := by decide +kernel
theorem chkO : namesO.all (chk fun z => nameOr z [.str "one", .str "other"]) = true := by decide +kernel
theorem kinds_ok {k : Str} (h : V.str k ∈ kindsV) : inV (.str k) kindsV = true ∧ k.length ≤ 9 := by
  have e := List.all_eq_true.mp (show kindsV.all (fun v => match v with | .str z => inV (.str z) kindsV && decide (z.length ≤ 9) | _ => false) = true by decide +kernel) _ h
  obtain ⟨e1, e2⟩ := Bool.and_eq_true_iff.mp (show (inV (.str k) kindsV && decide (k.length ≤ 9)) = true from e)
  exact ⟨e1, of_decide_eq_true e2⟩
theorem drawn_good {r : RowD} (h : r.drawn) : r.good := by
  cases r with
  | step k o t a =>
    obtain ⟨d1, d2, d3, d4⟩ := h
    obtain ⟨k1, k2⟩ := kinds_ok d1
    obtain ⟨o1, o2, _⟩ := chk_of chkA d2
    obtain ⟨t1, t2, _⟩ := chk_of chkS d3
    refine ⟨?_, by omega, by omega, by omega⟩
    show (inV (.str k) kindsV && nameOr o [.str "any"] && nameOr t [.str "same"] && addOk a) = true
    rw [k1, o1, t1, d4]
    rfl
  | join k o t a =>
    obtain ⟨d1, d2, d3, d4⟩ := h
    obtain ⟨k1, k2, _⟩ := chk_of chkA d1
    obtain ⟨o1, o2, _⟩ := chk_of chkA d2
    obtain ⟨t1, t2, _⟩ := chk_of chkO d3
    refine ⟨?_, by omega, by omega, by omega⟩
    show (nameOr k [.str "any"] && nameOr o [.str "any"] && nameOr t [.str "one", .str "other"] && addOk a) = true
    rw [k1, o1, t1, d4]
    rfl
  | part k o t a m =>
    obtain ⟨d1, d2, d3, d4, d5⟩ := h
    obtain ⟨k1, k2, _⟩ := chk_of chkA d1
    obtain ⟨o1, o2, _⟩ := chk_of chkS d2
    obtain ⟨t1, t2, _⟩ := chk_of chkS d3
    refine ⟨?_, by omega, by omega, by omega⟩
    show (nameOr k [.str "any"] && nameOr o [.str "same"] && nameOr t [.str "same"] && addOk a && addOk m) = true
    rw [k1, o1, t1, d4, d5]
    rfl
/-! ### a row's text -/
def RowD.parts : RowD → List Str
  | .step k o t a => [k, o, t, numS a]
  | .join k o t a => [k, o, t, numS a]
  | .part k o t a m => [k, o, t, numS a, numS m]
theorem parts_get {r : RowD} (h : r.drawn) {i : Nat} {x : V} (e : (cutV r.tup (some 1) none)[i]? = some x) : x = .str (r.parts.getD i "") ∨ ∃ n : Int, x = .int n ∧ addOk n = true ∧ r.parts.getD i "" = numS n := by
  cases r with
  | step k o t a =>
    have e' : [V.str k, .str o, .str t, .int a][i]? = some x := e
    match i, e' with
    | 0, e => cases e; exact .inl rfl
    | 1, e => cases e; exact .inl rfl
    | 2, e => cases e; exact .inl rfl
    | 3, e => cases e; exact .inr ⟨a, rfl, h.2.2.2, rfl⟩
    | n + 4, e => simp at e
  | join k o t a =>
    have e' : [V.str k, .str o, .str t, .int a][i]? = some x := e
    match i, e' with
    | 0, e => cases e; exact .inl rfl
    | 1, e => cases e; exact .inl rfl
    | 2, e => cases e; exact .inl rfl
    | 3, e => cases e; exact .inr ⟨a, rfl, h.2.2.2, rfl⟩
    | n + 4, e => simp at e
  | part k o t a m =>
    have e' : [V.str k, .str o, .str t, .int a, .int m][i]? = some x := e
    match i, e' with
    | 0, e => cases e; exact .inl rfl
    | 1, e => cases e; exact .inl rfl
    | 2, e => cases e; exact .inl rfl
    | 3, e => cases e; exact .inr ⟨a, rfl, h.2.2.2.1, rfl⟩
    | 4, e => cases e; exact .inr ⟨m, rfl, h.2.2.2.2, rfl⟩
    | n + 5, e => simp at e
def IsT (z : Str) (n : Nat) : VP := fun u _ => u = .str z ∧ z.length ≤ n
abbrev rAddS : R2 := fun x y H Q => ∃ i j : Str, x = .str i ∧ y = .str j ∧ i.length + j.length ≤ sizeLine ∧ Q (.str (i ++ j)) H
section
variable {K : PySem.W.Frag} {R : Res} {σ : L2.St} {H Hc : Hp} {ta tb te : TE}
theorem stb_isT {z : Str} {n : Nat} : Stb R (IsT z n) := fun _ _ _ _ h => h
theorem ev_T {z : Str} (n : Nat) (h : EvP R te σ H (Is (.str z))) (hl : z.length ≤ n) : EvP R te σ H (IsT z n) := ev_imp h fun _ _ _ e => ⟨e, hl⟩
theorem ev_addS {x y : Str} {n m : Nat} (ha : EvP R ta σ H (IsT x n)) (hb : EvP R tb σ H (IsT y m)) (hl : n + m ≤ 1000) : EvP R (tOp rAddS ta tb) σ H (IsT (x ++ y) (n + m)) :=
  ev_op stb_isT ha hb fun u v H1 g ⟨e1, l1⟩ ⟨e2, l2⟩ Q q => ⟨x, y, e1, e2, small (by omega), q _ H1 (Gv.refl g.1) ⟨rfl, by rw [Str.length_append]; omega⟩⟩
end
theorem num9 {a : Int} (h : addOk a = true) : (numS a).length ≤ 9 := Nat.le_trans (numS_len h) (by decide)
theorem Str_eq {x y : Str} (h : x.cps = y.cps) : x = y := by
  cases x; cases y
  exact congrArg Str.mk h
theorem text_step (k o t n : Str) : k ++ " " ++ o ++ " to " ++ t ++ " by " ++ n = Txt.join " " [k, o, "to", t, "by", n] := by
  refine Str_eq ?_
  show k.cps ++ #[32] ++ o.cps ++ (#[32, 116, 111, 32] : Array Nat) ++ t.cps ++ (#[32, 98, 121, 32] : Array Nat) ++ n.cps = k.cps ++ #[32] ++ o.cps ++ #[32] ++ #[116, 111] ++ #[32] ++ t.cps ++ #[32] ++ #[98, 121] ++ #[32] ++ n.cps
  simp [Array.append_assoc]
theorem text_join (k o t n : Str) : "join " ++ k ++ " " ++ o ++ " to " ++ t ++ " by " ++ n = Txt.join " " ["join", k, o, "to", t, "by", n] := by
  refine Str_eq ?_
  show (#[106, 111, 105, 110, 32] : Array Nat) ++ k.cps ++ #[32] ++ o.cps ++ (#[32, 116, 111, 32] : Array Nat) ++ t.cps ++ (#[32, 98, 121, 32] : Array Nat) ++ n.cps = #[106, 111, 105, 110] ++ #[32] ++ k.cps ++ #[32] ++ o.cps ++ #[32] ++ #[116, 111] ++ #[32] ++ t.cps ++ #[32] ++ #[98, 121] ++ #[32] ++ n.cps
  simp [Array.append_assoc]
section
variable {P : Program} {w : World} {A : Ads} {K : PySem.W.Frag} {mg : Str → Option Value} {base : Heap}
def spText : Sp := fun vs H Q _ => ∃ (t : Addr) (r : RowD), vs = [.ref t] ∧ H t = some (.tup r.tup) ∧ r.drawn ∧ ∀ H', Same H H' → Q (.str r.text) H'
theorem ok_text2 (T : Tx A K mg) {f : Addr} {fd : FuncData} (F : Fun K "_law_row_text" "_law_row_text" s_law_row_text f fd) : FnOk P w K mg base CX0 1 f fd ["_law_row"] spText := by
  refine F.ok sc_law_row_text (fun vs H Q E h => ?_) (fun cdv A' outer s H vs Q E hr h => ?_)
  · obtain ⟨t, r, rfl, _⟩ := h; rfl
  · obtain ⟨t, r, rfl, ht, dr, q⟩ := h
    refine ⟨_, (pss_cons (ps_setLc (i := 1) (own := [("_law_part", 2)]) (g := gName 2) rfl sc_law_row_text.nd rfl rfl (sw_true rfl rfl rfl (by decide +kernel)) (pi_tup (pe_slice sl_tupA (pv 0) (po_some pe_int) po_none)) (blkOk_by (own := [("_law_part", 2)]) (N := ["_law_row", "_law_some", "_law_part"]) (sc := defScope s_law_row_text) (by decide +kernel)) (fun _ _ _ _ _ => pg_name (i := 2) sc_law_row_text.nd rfl (Or.inl rfl)) (fun _ _ _ _ _ => pts_nil) (fun _ _ _ _ _ => (pe_callTy call_str_is (by rfl) T.z_str (by decide +kernel) (pa_cons (pv 2) pa_nil))))
      (pss_cons (ps_if (pt_cmpR op_eq (pe_ix ix_tup (pv 0) pe_int (fun _ _ => rfl)) pe_str (nomark _)) (pss_one (ps_ret (pe_op op_add_str (pe_op op_add_str (pe_op op_add_str (pe_op op_add_str (pe_op op_add_str (pe_op op_add_str (pe_ix ix_list (pv 1) pe_int (fun _ _ => rfl)) pe_str) (pe_ix ix_list (pv 1) pe_int (fun _ _ => rfl))) pe_str) (pe_ix ix_list (pv 1) pe_int (fun _ _ => rfl))) pe_str) (pe_ix ix_list (pv 1) pe_int (fun _ _ => rfl))))) pss_nil)
      (pss_cons (ps_if (pt_cmpR op_eq (pe_ix ix_tup (pv 0) pe_int (fun _ _ => rfl)) pe_str (nomark _)) (pss_one (ps_ret (pe_op op_add_str (pe_op op_add_str (pe_op op_add_str (pe_op op_add_str (pe_op op_add_str (pe_op op_add_str (pe_op op_add_str pe_str (pe_ix ix_list (pv 1) pe_int (fun _ _ => rfl))) pe_str) (pe_ix ix_list (pv 1) pe_int (fun _ _ => rfl))) pe_str) (pe_ix ix_list (pv 1) pe_int (fun _ _ => rfl))) pe_str) (pe_ix ix_list (pv 1) pe_int (fun _ _ => rfl))))) pss_nil)
      (pss_one (ps_ret (pe_bm PySem.F.plainAttrs_str PySem.F.slot_str_join PySem.F.type_str_join mt_join pe_str (pa_cons (pe_lst (pa_cons pe_str (pa_cons (pe_ix ix_list (pv 1) pe_int (fun _ _ => rfl)) (pa_cons pe_str (pa_cons (pe_ix ix_list (pv 1) pe_int (fun _ _ => rfl)) (pa_cons (pe_ix ix_list (pv 1) pe_int (fun _ _ => rfl)) (pa_cons pe_str (pa_cons (pe_ix ix_list (pv 1) pe_int (fun _ _ => rfl)) (pa_cons (pe_ix ix_list (pv 1) pe_int (fun _ _ => rfl)) pa_nil))))))))) pa_nil))))))), ?_⟩
    have nof : t ∉ Free.D ∧ t ∉ Free.h := ⟨List.not_mem_nil, List.not_mem_nil⟩
    have nl : (cutV r.tup (some 1) none).length ≤ 6 := by cases r <;> exact Nat.le_of_ble_eq_true rfl
    refine s_set (R := Free) (H := H) (P := LstN Free (r.parts.map V.str)) ?_ (Gr.refl free_j) fun u H1 g1 gv1 hu => ?_
    · have e : r.parts.map V.str = ((List.range (cutV r.tup (some 1) none).length).filter fun _ => true).map (fun i => V.str (r.parts.getD i "")) := by cases r <;> rfl
      rw [e]
      refine ev_lcV (R := Free) (Y := YAt (cutV r.tup (some 1) none)) (Z := fun i x => (cutV r.tup (some 1) none)[i]? = some x) (fun i => .str (r.parts.getD i "")) (fun _ => true) (ew_tup (K := K) (ev_U (ev_slA (ev_varTN (R := Free) rfl ht nof) (eo_some ev_c) eo_none))) (by omega) yAt_ok (fun x => rfl) (fun D hD i x hi z => ⟨et_yes, fun _ => ?_⟩)
      rcases parts_get dr z with e | ⟨n, e, hn, e2⟩
      · subst e
        exact ev_cb (ea_is (ev_is rfl) ea_nil) fun vs H1 g ps Q q => by
          cases psOk1 ps
          exact .inr ⟨_, rfl, q _ H1 g.at rfl⟩
      · subst e
        rw [e2]
        exact ev_cb (ea_is (ev_is rfl) ea_nil) fun vs H1 g ps Q q => by
          cases psOk1 ps
          exact .inl ⟨n, rfl, add_log hn, q _ H1 g.at rfl⟩
    obtain ⟨p, rfl, hp, hpd⟩ := hu
    dsimp only
    have at0 : ∀ {H'}, Gr Free H1 H' → EvP Free (tOp (rIxT K) (tVar 0) (tC (.int 0))) [some (.ref t), some (.ref p), none] H' (Is (.str r.form)) := fun {H'} g => ev_ixT (ev_U (ev_varTN (R := Free) rfl ((g1.tr g).2 t _ ht nof.1 nof.2) nof)) ev_c (tup_form r)
    have at1 : ∀ {H' z} (j : Nat) (hj : r.parts[j]? = some z), Gr Free H1 H' → EvP Free (tOp (rIxL K) (tVar 1) (tC (.int (j : Int)))) [some (.ref t), some (.ref p), none] H' (Is (.str z)) := fun {H' z} j hj g => ev_ixL (ev_L (ev_varLN (R := Free) rfl (g.2 p _ hp hpd.1 hpd.2) hpd)) ev_c (atI_nat (by rw [List.getElem?_map, hj]; rfl))
    show tSeq _ _ _ [some (.ref t), some (.ref p), none] H1
    have c1 : ∀ {σ : L2.St} {H' : Hp} {z : Str}, z.length ≤ 9 → EvP Free (tC (.str z)) σ H' (IsT z 9) := fun h => ev_T 9 ev_c h
    have fin : ∀ {H2 : Hp} {u : V} {z n}, Gr Free H1 H2 → IsT z n u H2 → z = r.text → Q u H2 := fun {H2 u z n} g ⟨e, _⟩ e2 => by
      rw [e, e2]
      exact q H2 (g1.tr g).free
    refine s_if1 (R := Free) (H := H1) (b := decide (V.str r.form = V.str "step")) (et_test (ev_eq rfl (at0 g1.at.1) ev_c)) (Gr.refl free_j) (fun hb H2 g2 gv2 => ?_) (fun hb H2 g2 gv2 => ?_)
    · cases r with
      | step k o t' a =>
        obtain ⟨d1, d2, d3, d4⟩ := dr
        obtain ⟨_, l1⟩ := kinds_ok d1
        obtain ⟨_, l2, _⟩ := chk_of chkA d2
        obtain ⟨_, l3, _⟩ := chk_of chkS d3
        refine s_ret (R := Free) (H := H2) (ev_addS (ev_addS (ev_addS (ev_addS (ev_addS (ev_addS (ev_T 9 (at1 0 rfl g2) l1) (c1 (by decide)) (by decide)) (ev_T 9 (at1 1 rfl g2) l2) (by decide)) (c1 (by decide)) (by decide)) (ev_T 9 (at1 2 rfl g2) l3) (by decide)) (c1 (by decide)) (by decide)) (ev_T 9 (at1 3 rfl g2) (num9 d4)) (by decide)) (Gr.refl free_j) fun u H3 g3 _ hu => fin (g2.tr g3) hu (text_step k o t' (numS a))
      | join k o t' a => exact absurd hb (show ¬ decide (V.str "join" = V.str "step") = true by decide)
      | part k o t' a m => exact absurd hb (show ¬ decide (V.str "part" = V.str "step") = true by decide)
    dsimp only
    refine s_if1 (R := Free) (H := H2) (b := decide (V.str r.form = V.str "join")) (et_test (ev_eq rfl (at0 g2) ev_c)) (Gr.refl free_j) (fun hb2 H3 g3 gv3 => ?_) (fun hb2 H3 g3 gv3 => ?_)
    · cases r with
      | join k o t' a =>
        obtain ⟨d1, d2, d3, d4⟩ := dr
        obtain ⟨_, l1, _⟩ := chk_of chkA d1
        obtain ⟨_, l2, _⟩ := chk_of chkA d2
        obtain ⟨_, l3, _⟩ := chk_of chkO d3
        have g23 := g2.tr g3
        refine s_ret (R := Free) (H := H3) (ev_addS (ev_addS (ev_addS (ev_addS (ev_addS (ev_addS (ev_addS (c1 (by decide)) (ev_T 9 (at1 0 rfl g23) l1) (by decide)) (c1 (by decide)) (by decide)) (ev_T 9 (at1 1 rfl g23) l2) (by decide)) (c1 (by decide)) (by decide)) (ev_T 9 (at1 2 rfl g23) l3) (by decide)) (c1 (by decide)) (by decide)) (ev_T 9 (at1 3 rfl g23) (num9 d4)) (by decide)) (Gr.refl free_j) fun u H4 g4 _ hu => fin (g23.tr g4) hu (text_join k o t' (numS a))
      | step k o t' a => exact absurd hb2 (show ¬ decide (V.str "step" = V.str "join") = true by decide)
      | part k o t' a m => exact absurd hb2 (show ¬ decide (V.str "part" = V.str "join") = true by decide)
    dsimp only
    cases r with
    | step k o t' a => exact absurd hb (show ¬ decide (V.str "step" = V.str "step") = false by decide)
    | join k o t' a => exact absurd hb2 (show ¬ decide (V.str "join" = V.str "join") = false by decide)
    | part k o t' a m =>
      have g23 := g2.tr g3
      refine s_ret (R := Free) (H := H3) (P := Is (.str (RowD.part k o t' a m).text)) ?_ (Gr.refl free_j) fun u H4 g4 _ hu => ?_
      · exact ev_join (ys := (RowD.part k o t' a m).words) ev_c (ev_imp (ev_lstN (R := Free) (vs := (RowD.part k o t' a m).words.map V.str) (ea_is ev_c (ea_is (at1 0 rfl g23) (ea_is ev_c (ea_is (at1 1 rfl g23) (ea_is (at1 2 rfl g23) (ea_is ev_c (ea_is (at1 3 rfl g23) (ea_is (at1 4 rfl g23) ea_nil)))))))) (by show 8 ≤ 1000; decide)) fun u H' g ⟨p', e, h, _⟩ => ⟨p', e, .inl (.inl (.inl h))⟩) (words_fit (drawn_good dr))
      · cases hu
        exact q H4 ((g1.tr g23).tr g4).free
theorem ev_text {R : Res} {σ : L2.St} {H : Hp} {ta : TE} {r : RowD} {E : XK} (dr : r.drawn) (h : EvP R ta σ H (TupN R r.tup)) : EvP R (tCall spText [] E (tCons ta tNil)) σ H (Is (.str r.text)) := ev_call (ea_cons stb_tupN h ea_nil) fun vs H1 g ps Q q => by
  match vs, ps with
  | [u], ⟨⟨p, e, hp, _⟩, _⟩ =>
    cases e
    exact ⟨p, r, rfl, hp, dr, fun H' e => q _ H' (Gv.same g.1 e) rfl⟩
end
/-! ### rows made -/
def RowN (A : Ads) (R : Res) (r : RowD) : VP := fun u H => ∃ x dx t, u = .ref x ∧ H x = some (.ins (r.cls A) dx (r.flds t)) ∧ H t = some (.tup (r.words.map V.str)) ∧ (x ∉ R.D ∧ x ∉ R.h) ∧ (t ∉ R.D ∧ t ∉ R.h)
/-- .. new at H0 -/
def RowW (A : Ads) (R : Res) (H0 : Hp) (r : RowD) : VP := fun u H => ∃ x dx t, u = .ref x ∧ H x = some (.ins (r.cls A) dx (r.flds t)) ∧ H t = some (.tup (r.words.map V.str)) ∧ (x ∉ R.D ∧ x ∉ R.h) ∧ (t ∉ R.D ∧ t ∉ R.h) ∧ H0 x = none ∧ H0 t = none
section
variable {A : Ads} {K : PySem.W.Frag} {R : Res} {σ : L2.St} {H H0 H1 H' : Hp} {ta tb : TE} {ts : TA} {r r2 : RowD} {u : V} {x dx C : Addr} {E : XK}
theorem stb_rowN : Stb R (RowN A R r) := fun _ _ _ g ⟨x, dx, t, e, h1, h2, d1, d2⟩ => ⟨x, dx, t, e, g.2 x _ h1 d1.1 d1.2, g.2 t _ h2 d2.1 d2.2, d1, d2⟩
theorem stb_rowW : Stb R (RowW A R H0 r) := fun _ _ _ g ⟨x, dx, t, e, h1, h2, d1, d2, n⟩ => ⟨x, dx, t, e, g.2 x _ h1 d1.1 d1.2, g.2 t _ h2 d2.1 d2.2, d1, d2, n⟩
theorem rowW_N (h : RowW A R H0 r u H) : RowN A R r u H := let ⟨x, dx, t, e, h1, h2, d1, d2, _⟩ := h; ⟨x, dx, t, e, h1, h2, d1, d2⟩
theorem rowN_at (h : RowN A R r u H) : ∃ x, u = .ref x ∧ Al R (fun H' => RowAt A r H' x) H := by
  obtain ⟨x, dx, t, e, h1, h2, d1, d2⟩ := h
  exact ⟨x, e, fun H' g => ⟨dx, t, g.2 x _ h1 d1.1 d1.2, g.2 t _ h2 d2.1 d2.2⟩⟩
theorem made_ok (j : R.J H1) (hx : H1 x = none) (hdx : H1 dx = none) (ne : dx ≠ x) (m : Made A r x (upd (upd H1 dx (.own x)) x (.ins C dx [])) H') : Gv R H1 H' ∧ ∃ dx' t, H' x = some (.ins (r.cls A) dx' (r.flds t)) ∧ H' t = some (.tup (r.words.map V.str)) ∧ (x ∉ R.D ∧ x ∉ R.h) ∧ (t ∉ R.D ∧ t ∉ R.h) ∧ H1 t = none := by
  obtain ⟨m1, dx', t, m2, m3, m4⟩ := m
  have tx : t ≠ x := fun e => by rw [e, upd_same] at m4; cases m4
  rw [upd_ne tx] at m4
  have td : t ≠ dx := fun e => by rw [e, upd_same] at m4; cases m4
  rw [upd_ne td] at m4
  refine ⟨Gv.same j fun y o e => ?_, dx', t, m2, m3, off j hx, off j m4, m4⟩
  have yx : y ≠ x := ne_of_none e hx
  refine m1 y o yx ?_
  rw [upd_ne yx, upd_ne (ne_of_none e hdx)]
  exact e
theorem ev_mkStep {k o t : Str} {i : Int} (g : (RowD.step k o t i).good) (h : EvA R ts σ H [Is (.str k), Is (.str o), Is (.str t), Is (.int i)]) : EvP R (tMake A.Step (spStep0 A) [] E ts) σ H (RowW A R H (.step k o t i)) := fun H1 g1 Q q =>
  h H1 g1 _ fun vs H2 g2 ps => by
    match vs, ps with
    | [v1, v2, v3, v4], ⟨e1, e2, e3, e4, _⟩ =>
      cases e1; cases e2; cases e3; cases e4
      exact fun x dx hx hdx ne => ⟨x, dx, k, o, t, i, rfl, upd_same, g.1, g.2, fun H' m => by
        obtain ⟨gv, dx', t', h1, h2, o1, o2, n2⟩ := made_ok (R := R) g2.1.1 hx hdx ne m
        exact ⟨rfl, q _ H' (g2.trans gv) ⟨x, dx', t', rfl, h1, h2, o1, o2, (g1.trans g2).back hx, (g1.trans g2).back n2⟩⟩⟩
theorem ev_mkJoin {k o t : Str} {i : Int} (g : (RowD.join k o t i).good) (h : EvA R ts σ H [Is (.str k), Is (.str o), Is (.str t), Is (.int i)]) : EvP R (tMake A.Join (spJoin0 A) [] E ts) σ H (RowW A R H (.join k o t i)) := fun H1 g1 Q q =>
  h H1 g1 _ fun vs H2 g2 ps => by
    match vs, ps with
    | [v1, v2, v3, v4], ⟨e1, e2, e3, e4, _⟩ =>
      cases e1; cases e2; cases e3; cases e4
      exact fun x dx hx hdx ne => ⟨x, dx, k, o, t, i, rfl, upd_same, g.1, g.2, fun H' m => by
        obtain ⟨gv, dx', t', h1, h2, o1, o2, n2⟩ := made_ok (R := R) g2.1.1 hx hdx ne m
        exact ⟨rfl, q _ H' (g2.trans gv) ⟨x, dx', t', rfl, h1, h2, o1, o2, (g1.trans g2).back hx, (g1.trans g2).back n2⟩⟩⟩
theorem ev_mkPart {k o t : Str} {i m : Int} (g : (RowD.part k o t i m).good) (h : EvA R ts σ H [Is (.str k), Is (.str o), Is (.str t), Is (.int i), Is (.int m)]) : EvP R (tMake A.Part (spPart0 A) [] E ts) σ H (RowW A R H (.part k o t i m)) := fun H1 g1 Q q =>
  h H1 g1 _ fun vs H2 g2 ps => by
    match vs, ps with
    | [v1, v2, v3, v4, v5], ⟨e1, e2, e3, e4, e5, _⟩ =>
      cases e1; cases e2; cases e3; cases e4; cases e5
      exact fun x dx hx hdx ne => ⟨x, dx, k, o, t, i, m, rfl, upd_same, g.1, g.2, fun H' mm => by
        obtain ⟨gv, dx', t', h1, h2, o1, o2, n2⟩ := made_ok (R := R) g2.1.1 hx hdx ne mm
        exact ⟨rfl, q _ H' (g2.trans gv) ⟨x, dx', t', rfl, h1, h2, o1, o2, (g1.trans g2).back hx, (g1.trans g2).back n2⟩⟩⟩
end
section
variable {P : Program} {w : World} {A : Ads} {K : PySem.W.Frag} {mg : Str → Option Value} {base : Heap}
def spRowOf (A : Ads) : Sp := fun vs H Q _ => ∃ (t : Addr) (r : RowD), vs = [.ref t] ∧ H t = some (.tup r.tup) ∧ r.drawn ∧ ∀ x dx t2 H', Same H H' → H x = none → H t2 = none → H' x = some (.ins (r.cls A) dx (r.flds t2)) → H' t2 = some (.tup (r.words.map V.str)) → Q (.ref x) H'
theorem ok_row_of (T : Tx A K mg) (c_Step : MakX P w K mg base CX0 3 "Step" A.Step (spStep0 A)) (c_Join : MakX P w K mg base CX0 3 "Join" A.Join (spJoin0 A)) (c_Part : MakX P w K mg base CX0 3 "Part" A.Part (spPart0 A)) {f : Addr} {fd : FuncData} (F : Fun K "_law_row_of" "_law_row_of" s_law_row_of f fd) : FnOk P w K mg base CX0 5 f fd ["_law_row"] (spRowOf A) := by
  refine F.ok sc_law_row_of (fun vs H Q E h => ?_) (fun cdv A' outer s H vs Q E hr h => ?_)
  · obtain ⟨t, r, rfl, _⟩ := h; rfl
  · obtain ⟨t, r, rfl, ht, dr, q⟩ := h
    refine ⟨_, (pss_cons (ps_if (pt_cmpR op_eq (pe_ix ix_tup (pv 0) pe_int (fun _ _ => rfl)) pe_str (nomark _)) (pss_one (ps_ret (pe_mkc c_Step hr (by decide) pass0 (pa_cons (pe_ix ix_tup (pv 0) pe_int (fun _ _ => rfl)) (pa_cons (pe_ix ix_tup (pv 0) pe_int (fun _ _ => rfl)) (pa_cons (pe_ix ix_tup (pv 0) pe_int (fun _ _ => rfl)) (pa_cons (pe_ix ix_tup (pv 0) pe_int (fun _ _ => rfl)) pa_nil))))))) pss_nil)
      (pss_cons (ps_if (pt_cmpR op_eq (pe_ix ix_tup (pv 0) pe_int (fun _ _ => rfl)) pe_str (nomark _)) (pss_one (ps_ret (pe_mkc c_Join hr (by decide) pass0 (pa_cons (pe_ix ix_tup (pv 0) pe_int (fun _ _ => rfl)) (pa_cons (pe_ix ix_tup (pv 0) pe_int (fun _ _ => rfl)) (pa_cons (pe_ix ix_tup (pv 0) pe_int (fun _ _ => rfl)) (pa_cons (pe_ix ix_tup (pv 0) pe_int (fun _ _ => rfl)) pa_nil))))))) pss_nil)
      (pss_one (ps_ret (pe_mkc c_Part hr (by decide) pass0 (pa_cons (pe_ix ix_tup (pv 0) pe_int (fun _ _ => rfl)) (pa_cons (pe_ix ix_tup (pv 0) pe_int (fun _ _ => rfl)) (pa_cons (pe_ix ix_tup (pv 0) pe_int (fun _ _ => rfl)) (pa_cons (pe_ix ix_tup (pv 0) pe_int (fun _ _ => rfl)) (pa_cons (pe_ix ix_tup (pv 0) pe_int (fun _ _ => rfl)) pa_nil)))))))))), ?_⟩
    have nof : t ∉ Free.D ∧ t ∉ Free.h := ⟨List.not_mem_nil, List.not_mem_nil⟩
    have gd := drawn_good dr
    have fin : ∀ {u : V} {H1}, Gr Free H H1 → RowW A Free H r u H1 → Q u H1 := fun {u H1} g h => by
      obtain ⟨x, dx, t2, rfl, h1, h2, _, _, n1, n2⟩ := h
      exact q x dx t2 H1 g.free n1 n2 h1 h2
    have row : ∀ {H'}, Gr Free H H' → EvP Free (tVar 0) [some (.ref t)] H' (IsU K Free r.tup) := fun {H'} g => ev_U (ev_varTN (R := Free) rfl (g.2 t _ ht nof.1 nof.2) nof)
    have at1 : ∀ {H' v} (j : Nat) (hj : r.tup[j]? = some v), Gr Free H H' → EvP Free (tOp (rIxT K) (tVar 0) (tC (.int (j : Int)))) [some (.ref t)] H' (Is v) := fun {H' v} j hj g => ev_ixT (row g) ev_c (atI_nat hj)
    have at0 : ∀ {H'}, Gr Free H H' → EvP Free (tOp (rIxT K) (tVar 0) (tC (.int 0))) [some (.ref t)] H' (Is (.str r.form)) := fun {H'} g => ev_ixT (row g) ev_c (tup_form r)
    refine s_if1 (R := Free) (H := H) (b := decide (V.str r.form = V.str "step")) (et_test (ev_eq rfl (at0 (Gr.refl free_j)) ev_c)) (Gr.refl free_j) (fun hb H2 g2 gv2 => ?_) (fun hb H2 g2 gv2 => ?_)
    · cases r with
      | step k o t' a =>
        refine s_ret (R := Free) (H := H) (ev_mkStep gd (ea_is (at1 1 rfl (Gr.refl free_j)) (ea_is (at1 2 rfl (Gr.refl free_j)) (ea_is (at1 3 rfl (Gr.refl free_j)) (ea_is (at1 4 rfl (Gr.refl free_j)) ea_nil))))) g2 fun u H3 g3 _ hu => fin g3 hu
      | join k o t' a => exact absurd hb (show ¬ decide (V.str "join" = V.str "step") = true by decide)
      | part k o t' a m => exact absurd hb (show ¬ decide (V.str "part" = V.str "step") = true by decide)
    dsimp only
    refine s_if1 (R := Free) (H := H) (b := decide (V.str r.form = V.str "join")) (et_test (ev_eq rfl (at0 (Gr.refl free_j)) ev_c)) g2 (fun hb2 H3 g3 gv3 => ?_) (fun hb2 H3 g3 gv3 => ?_)
    · cases r with
      | join k o t' a =>
        refine s_ret (R := Free) (H := H) (ev_mkJoin gd (ea_is (at1 1 rfl (Gr.refl free_j)) (ea_is (at1 2 rfl (Gr.refl free_j)) (ea_is (at1 3 rfl (Gr.refl free_j)) (ea_is (at1 4 rfl (Gr.refl free_j)) ea_nil))))) g3 fun u H3 g3 _ hu => fin g3 hu
      | step k o t' a => exact absurd hb2 (show ¬ decide (V.str "step" = V.str "join") = true by decide)
      | part k o t' a m => exact absurd hb2 (show ¬ decide (V.str "part" = V.str "join") = true by decide)
    dsimp only
    cases r with
    | step k o t' a => exact absurd hb (show ¬ decide (V.str "step" = V.str "step") = false by decide)
    | join k o t' a => exact absurd hb2 (show ¬ decide (V.str "join" = V.str "join") = false by decide)
    | part k o t' a m =>
      refine s_ret (R := Free) (H := H) (ev_mkPart gd (ea_is (at1 1 rfl (Gr.refl free_j)) (ea_is (at1 2 rfl (Gr.refl free_j)) (ea_is (at1 3 rfl (Gr.refl free_j)) (ea_is (at1 4 rfl (Gr.refl free_j)) (ea_is (at1 5 rfl (Gr.refl free_j)) ea_nil)))))) g3 fun u H3 g3 _ hu => fin g3 hu
theorem ev_rowOf {R : Res} {σ : L2.St} {H : Hp} {ta : TE} {r : RowD} {E : XK} (dr : r.drawn) (h : EvP R ta σ H (TupN R r.tup)) : EvP R (tCall (spRowOf A) [] E (tCons ta tNil)) σ H (RowN A R r) := ev_call (ea_cons stb_tupN h ea_nil) fun vs H1 g ps Q q => by
  match vs, ps with
  | [u], ⟨⟨p, e, hp, _⟩, _⟩ =>
    cases e
    exact ⟨p, r, rfl, hp, dr, fun x dx t2 H' e n1 n2 h1 h2 => q _ H' (Gv.same g.1 e) ⟨x, dx, t2, rfl, h1, h2, off g.1 n1, off g.1 n2⟩⟩
theorem row_sub (T : Tx A K mg) (r r2 : RowD) : PySem.W.subIn K (.ref (r.cls A)) (.ref (r2.cls A)) = some (decide (r.form = r2.form)) := by
  cases r <;> cases r2
  · exact T.o_Step.me
  · exact T.sSJ
  · exact T.sSP
  · exact T.sJS
  · exact T.o_Join.me
  · exact T.sJP
  · exact T.sPS
  · exact T.sPJ
  · exact T.o_Part.me
/-- isinstance(a row, one of the three) -/
theorem ev_isRow (T : Tx A K mg) {R : Res} {σ : L2.St} {H : Hp} {ta tb : TE} {x : Addr} {r r2 : RowD} (h : EvP R ta σ H (Is (.ref x))) (hb : EvP R tb σ H (Is (.ref (r2.cls A)))) (hx : Al R (fun H' => RowAt A r H' x) H) : EvP R (tCB (rIsi K) (tCons ta (tCons tb tNil))) σ H (Is (.bl (decide (r.form = r2.form)))) :=
  ev_isi h hb (.own _) (fun H' g => by
    obtain ⟨dx, t, h1, h2⟩ := hx H' g
    exact (row_cls T r).typ ⟨T.ogt, T.otk⟩ h1) ((row_cls T r2).kit (row_sub T r r2))
def spAttr (A : Ads) : Sp := fun vs H Q _ => ∃ (x : Addr) (r : RowD), vs = [.ref x] ∧ RowAt A r H x ∧ ∀ t H', Same H H' → H t = none → H' t = some (.tup r.tup) → Q (.ref t) H'
theorem ok_attr (T : Tx A K mg) {f : Addr} {fd : FuncData} (F : Fun K "_law_attributes" "_law_attributes" s_law_attributes f fd) : FnOk P w K mg base CX0 1 f fd ["_law_row"] (spAttr A) := by
  refine F.ok sc_law_attributes (fun vs H Q E h => ?_) (fun cdv A' outer s H vs Q E hr h => ?_)
  · obtain ⟨t, r, rfl, _⟩ := h; rfl
  · obtain ⟨x, r, rfl, hx, q⟩ := h
    refine ⟨_, (pss_cons (ps_if (pt_val (pe_callB call_isi (by rfl) T.z_isinstance (by decide +kernel) (pa_cons (pv 0) (pa_cons (pe_glob (v := .ref A.Step) rfl T.g_Step rfl) pa_nil)))) (pss_one (ps_ret (pe_tup (pa_cons pe_str (pa_cons (pe_fld (pv 0) rfl) (pa_cons (pe_fld (pv 0) rfl) (pa_cons (pe_fld (pv 0) rfl) (pa_cons (pe_fld (pv 0) rfl) pa_nil)))))))) pss_nil)
      (pss_cons (ps_if (pt_val (pe_callB call_isi (by rfl) T.z_isinstance (by decide +kernel) (pa_cons (pv 0) (pa_cons (pe_glob (v := .ref A.Join) rfl T.g_Join rfl) pa_nil)))) (pss_one (ps_ret (pe_tup (pa_cons pe_str (pa_cons (pe_fld (pv 0) rfl) (pa_cons (pe_fld (pv 0) rfl) (pa_cons (pe_fld (pv 0) rfl) (pa_cons (pe_fld (pv 0) rfl) pa_nil)))))))) pss_nil)
      (pss_one (ps_ret (pe_tup (pa_cons pe_str (pa_cons (pe_fld (pv 0) rfl) (pa_cons (pe_fld (pv 0) rfl) (pa_cons (pe_fld (pv 0) rfl) (pa_cons (pe_fld (pv 0) rfl) (pa_cons (pe_fld (pv 0) rfl) pa_nil))))))))))), ?_⟩
    obtain ⟨dx, t, h1, h2⟩ := id hx
    have xs : ∀ {H'}, Gr Free H H' → Al Free (fun H' => RowAt A r H' x) H' := fun {H'} g => al_free fun H2 e => (hx.same g.free).same e
    have fld : ∀ {H' f v}, Gr Free H H' → NoAttr K (r.cls A) f → (r.flds t).lookup f = some v → EvP Free (tFld K (tVar 0) f) [some (.ref x)] H' (Is v) := fun {H' f v} g hn hl => ev_fld (ev_is rfl) (al_free fun H2 e => e _ _ (g.free _ _ h1)) (row_cls T r).cls hn hl
    have fin : ∀ {H2 : Hp} {ts : TA} {D : Ends}, Gr Free H H2 → D.rt = Q → EvA Free ts [some (.ref x)] H2 (r.tup.map Is) → tRet (tTup ts) D [some (.ref x)] H2 := fun {H2 ts D} g hD h => by
      refine s_retT (R := Free) (H := H2) h (Gr.refl free_j) fun us H3 g3 ps => ?_
      have e := psIs ps
      subst e
      rw [hD]
      refine ⟨by cases r <;> exact Nat.le_of_ble_eq_true rfl, fun p hp => ?_⟩
      have g23 := (g.tr g3).trans (Gv.new (o := .tup r.tup) free_j hp)
      exact q p _ g23.free ((g.tr g3).back hp) upd_same
    refine s_if1 (R := Free) (H := H) (b := decide (r.form = "step")) (et_B (ev_isRow T (r2 := .step "" "" "" 0) (ev_is rfl) ev_c (xs (Gr.refl free_j)))) (Gr.refl free_j) (fun hb H2 g2 gv2 => ?_) (fun hb H2 g2 gv2 => ?_)
    · cases r with
      | step k o t' a => exact fin g2 rfl (ea_is ev_c (ea_is (fld g2 T.na_Step_kind rfl) (ea_is (fld g2 T.na_Step_old rfl) (ea_is (fld g2 T.na_Step_then rfl) (ea_is (fld g2 T.na_Step_add rfl) ea_nil)))))
      | join k o t' a => exact absurd hb (show ¬ decide (("join" : Str) = "step") = true by decide)
      | part k o t' a m => exact absurd hb (show ¬ decide (("part" : Str) = "step") = true by decide)
    dsimp only
    refine s_if1 (R := Free) (H := H2) (b := decide (r.form = "join")) (et_B (ev_isRow T (r2 := .join "" "" "" 0) (ev_is rfl) ev_c (xs g2))) (Gr.refl free_j) (fun hb2 H3 g3 gv3 => ?_) (fun hb2 H3 g3 gv3 => ?_)
    · have g23 := g2.tr g3
      cases r with
      | join k o t' a => exact fin g23 rfl (ea_is ev_c (ea_is (fld g23 T.na_Join_here rfl) (ea_is (fld g23 T.na_Join_there rfl) (ea_is (fld g23 T.na_Join_then rfl) (ea_is (fld g23 T.na_Join_add rfl) ea_nil)))))
      | step k o t' a => exact absurd hb2 (show ¬ decide (("step" : Str) = "join") = true by decide)
      | part k o t' a m => exact absurd hb2 (show ¬ decide (("part" : Str) = "join") = true by decide)
    dsimp only
    have g23 := g2.tr g3
    cases r with
    | step k o t' a => exact absurd hb (show ¬ decide (("step" : Str) = "step") = false by decide)
    | join k o t' a => exact absurd hb2 (show ¬ decide (("join" : Str) = "join") = false by decide)
    | part k o t' a m => exact fin g23 rfl (ea_is ev_c (ea_is (fld g23 T.na_Part_old rfl) (ea_is (fld g23 T.na_Part_left rfl) (ea_is (fld g23 T.na_Part_right rfl) (ea_is (fld g23 T.na_Part_add rfl) (ea_is (fld g23 T.na_Part_more rfl) ea_nil))))))
theorem ev_attr {R : Res} {σ : L2.St} {H : Hp} {ta : TE} {r : RowD} {E : XK} (h : EvP R ta σ H (RowN A R r)) : EvP R (tCall (spAttr A) [] E (tCons ta tNil)) σ H (TupN R r.tup) := ev_call (ea_cons stb_rowN h ea_nil) fun vs H1 g ps Q q => by
  match vs, ps with
  | [u], ⟨hu, _⟩ =>
    obtain ⟨x, e, hx⟩ := rowN_at hu
    cases e
    exact ⟨x, r, rfl, hx.now g.1, fun t H' e n h => q _ H' (Gv.same g.1 e) ⟨t, rfl, h, off g.1 n⟩⟩
/-! ### rows compared -/
theorem row_first (T : Tx A K mg) (r r2 : RowD) : PySem.W.notFirst K (r.cls A) (.ref (r2.cls A)) = true := by
  by_cases e : r2.form = r.form
  · have : r2.cls A = r.cls A := by cases r <;> cases r2 <;> first | rfl | exact absurd e (by simp only [RowD.form]; decide)
    rw [this]
    exact notFirst_me
  · exact notFirst_of (by rw [row_sub T r2 r, decide_eq_false e])
abbrev rEqRow (A : Ads) (K : PySem.W.Frag) (E : XK) (g : Bool → Bool) : R2 := fun x y H Q => rOwn K A.Step (spRowEq A K) E g x y H Q ∨ (rOwn K A.Join (spRowEq A K) E g x y H Q ∨ rOwn K A.Part (spRowEq A K) E g x y H Q)
theorem rEqRow_of {E : XK} {g : Bool → Bool} {x y : V} {H : Hp} {Q : VK} (r : RowD) (h : rOwn K (r.cls A) (spRowEq A K) E g x y H Q) : rEqRow A K E g x y H Q := by
  cases r
  · exact .inl h
  · exact .inr (.inl h)
  · exact .inr (.inr h)
theorem ev_eqRow (T : Tx A K mg) {R : Res} {σ : L2.St} {H : Hp} {ta tb : TE} {r r2 : RowD} {E : XK} {g : Bool → Bool} (d1 : r.good) (d2 : r2.good) (h1 : EvP R ta σ H (RowN A R r)) (h2 : EvP R tb σ H (RowN A R r2)) : EvP R (tOp (rEqRow A K E g) ta tb) σ H (Is (.bl (g (decide (r.text = r2.text))))) :=
  ev_op stb_rowN h1 h2 fun x y H1 gg hx hy Q q => by
    obtain ⟨a, rfl, ha⟩ := rowN_at hx
    obtain ⟨a2, rfl, ha2⟩ := rowN_at hy
    have k1 := ha.now gg.1
    have k2 := ha2.now gg.1
    obtain ⟨dx, t, e1, e2⟩ := id k1
    obtain ⟨dx2, t2, f1, f2⟩ := id k2
    exact rEqRow_of r ⟨a, dx, _, _, rfl, e1, (row_cls T r2).typ ⟨T.ogt, T.otk⟩ f1, row_first T r r2, a, r, _, _, rfl, k1, d1, .inr ⟨a2, r2, rfl, k2, d2, rfl⟩, fun H' e => ⟨_, rfl, q _ H' (Gv.same gg.1 e) rfl⟩⟩
theorem ev_eqNot (T : Tx A K mg) {R : Res} {σ : L2.St} {H : Hp} {ta tb : TE} {r : RowD} {E : XK} {g : Bool → Bool} {B : VP} {ty : Value} (d1 : r.good) (h1 : EvP R ta σ H (RowN A R r)) (h2 : EvP R tb σ H B) (hB : ∀ v H', B v H' → TyX K H' v ty ∧ Al Free (fun H' => TyX K H' v ty) H') (hk : PySem.W.kitOne K ty (.ref A.Row) = some false) (hn : PySem.W.notFirst K (r.cls A) ty = true) :
    EvP R (tOp (rEqRow A K E g) ta tb) σ H (Is (.bl (g false))) :=
  ev_op stb_rowN h1 h2 fun x y H1 gg hx hy Q q => by
    obtain ⟨a, rfl, ha⟩ := rowN_at hx
    have k1 := ha.now gg.1
    obtain ⟨dx, t, e1, e2⟩ := id k1
    obtain ⟨y1, y2⟩ := hB y H1 hy
    exact rEqRow_of r ⟨a, dx, _, _, rfl, e1, y1, hn, a, r, y, false, rfl, k1, d1, .inl ⟨ty, y2, hk, rfl⟩, fun H' e => ⟨_, rfl, q _ H' (Gv.same gg.1 e) rfl⟩⟩
end
/-! ### the texts of two rows are equal when the rows are -/
def cat32 : List (List Nat) → List Nat
  | [] => []
  | [x] => x
  | x :: y :: r => x ++ 32 :: cat32 (y :: r)
theorem cat_app : ∀ (xs ys : List (List Nat)), xs ≠ [] → ys ≠ [] → cat32 (xs ++ ys) = cat32 xs ++ 32 :: cat32 ys
  | [], _, h, _ => absurd rfl h
  | [x], [], _, h => absurd rfl h
  | [x], y :: ys, _, _ => rfl
  | x :: z :: xs, ys, _, h => by
    have ih := cat_app (z :: xs) ys (fun e => nomatch e) h
    show x ++ 32 :: cat32 (z :: xs ++ ys) = x ++ 32 :: cat32 (z :: xs) ++ 32 :: cat32 ys
    rw [ih]
    simp
theorem cut_inj : ∀ {x y u v : List Nat}, 32 ∉ x → 32 ∉ y → x ++ 32 :: u = y ++ 32 :: v → x = y ∧ u = v
  | [], [], u, v, _, _, e => ⟨rfl, (List.cons.inj e).2⟩
  | [], b :: y, u, v, _, hy, e => absurd (by rw [(List.cons.inj e).1]; exact List.mem_cons_self) hy
  | a :: x, [], u, v, hx, _, e => absurd (by rw [← (List.cons.inj e).1]; exact List.mem_cons_self) hx
  | a :: x, b :: y, u, v, hx, hy, e => by
    obtain ⟨e1, e2⟩ := List.cons.inj e
    obtain ⟨h1, h2⟩ := cut_inj (fun h => hx (List.mem_cons_of_mem _ h)) (fun h => hy (List.mem_cons_of_mem _ h)) e2
    exact ⟨by rw [e1, h1], h2⟩
theorem cut_not {x u y : List Nat} (hy : 32 ∉ y) : x ++ 32 :: u ≠ y := fun e => hy (by rw [← e]; simp)
theorem cat_inj : ∀ {xs ys : List (List Nat)}, (∀ x, x ∈ xs → 32 ∉ x) → (∀ y, y ∈ ys → 32 ∉ y) → xs ≠ [] → ys ≠ [] → cat32 xs = cat32 ys → xs = ys
  | [], _, _, _, h, _, _ => absurd rfl h
  | _ :: _, [], _, _, _, h, _ => absurd rfl h
  | [x], [y], _, _, _, _, e => by rw [show x = y from e]
  | [x], y :: z :: ys, hx, _, _, _, e => absurd (show y ++ 32 :: cat32 (z :: ys) = x from e.symm) (cut_not (hx x List.mem_cons_self))
  | x :: z :: xs, [y], _, hy, _, _, e => absurd (show x ++ 32 :: cat32 (z :: xs) = y from e) (cut_not (hy y List.mem_cons_self))
  | x :: x2 :: xs, y :: y2 :: ys, hx, hy, _, _, e => by
    obtain ⟨e1, e2⟩ := cut_inj (hx x List.mem_cons_self) (hy y List.mem_cons_self) (show x ++ 32 :: cat32 (x2 :: xs) = y ++ 32 :: cat32 (y2 :: ys) from e)
    rw [e1, cat_inj (fun z hz => hx z (List.mem_cons_of_mem _ hz)) (fun z hz => hy z (List.mem_cons_of_mem _ hz)) (fun h => nomatch h) (fun h => nomatch h) e2]
/-- a kind's words -/
def kw (k : Str) : List (List Nat) := if k = "late yes" then [[108, 97, 116, 101], [121, 101, 115]] else if k = "late no" then [[108, 97, 116, 101], [110, 111]] else [k.cps.toList]
def kwOk (v : V) : Bool := match v with
  | .str k => decide (cat32 (kw k) = k.cps.toList) && (kw k).all (fun x => !x.contains 32) && (decide ((kw k).length = 1) || decide ((kw k).length = 2) && decide ((kw k).head? = some [108, 97, 116, 101]))
  | _ => false
theorem kw_all : kindsV.all kwOk = true := by decide +kernel
theorem kw_ok {k : Str} (h : V.str k ∈ kindsV) : cat32 (kw k) = k.cps.toList ∧ (∀ x, x ∈ kw k → 32 ∉ x) ∧ ((kw k).length = 1 ∨ (kw k).length = 2 ∧ (kw k).head? = some [108, 97, 116, 101]) := by
  have e : (decide (cat32 (kw k) = k.cps.toList) && (kw k).all (fun x => !x.contains 32) && (decide ((kw k).length = 1) || decide ((kw k).length = 2) && decide ((kw k).head? = some [108, 97, 116, 101]))) = true := List.all_eq_true.mp kw_all _ h
  obtain ⟨e1, e2⟩ := Bool.and_eq_true_iff.mp e
  obtain ⟨e3, e4⟩ := Bool.and_eq_true_iff.mp e1
  refine ⟨of_decide_eq_true e3, fun x hx => ?_, ?_⟩
  · have := List.all_eq_true.mp e4 x hx
    simpa using this
  · rcases Bool.or_eq_true_iff.mp e2 with h | h
    · exact .inl (of_decide_eq_true h)
    · obtain ⟨h1, h2⟩ := Bool.and_eq_true_iff.mp h
      exact .inr ⟨of_decide_eq_true h1, of_decide_eq_true h2⟩
def adds7 : List Int := [-3, -2, -1, 0, 1, 2, 3]
theorem add_mem {a : Int} (h : addOk a = true) : a ∈ adds7 := by
  obtain ⟨h1, h2⟩ := Bool.and_eq_true_iff.mp h
  have h1' : -3 ≤ a := of_decide_eq_true h1
  have h2' : a ≤ 3 := of_decide_eq_true h2
  have : a = -3 ∨ a = -2 ∨ a = -1 ∨ a = 0 ∨ a = 1 ∨ a = 2 ∨ a = 3 := by omega
  simpa [adds7] using this
theorem num_free {a : Int} (h : addOk a = true) : 32 ∉ (numS a).cps.toList := by
  have := List.all_eq_true.mp (show adds7.all (fun a => !(numS a).cps.toList.contains 32) = true by decide +kernel) a (add_mem h)
  simpa using this
theorem num_inj {a b : Int} (ha : addOk a = true) (hb : addOk b = true) (e : numS a = numS b) : a = b := by
  have h1 := List.all_eq_true.mp (show adds7.all (fun a => adds7.all fun b => !decide (numS a = numS b) || decide (a = b)) = true by decide +kernel) a (add_mem ha)
  have h2 := List.all_eq_true.mp h1 b (add_mem hb)
  rw [decide_eq_true e] at h2
  simpa using h2
theorem no32 {z : Str} (h : z.cps.toList.contains 32 = false) : 32 ∉ z.cps.toList := by simpa using h
def RowD.ws : RowD → List (List Nat)
  | .step k o t a => kw k ++ [o.cps.toList, [116, 111], t.cps.toList, [98, 121], (numS a).cps.toList]
  | .join h o t a => [[106, 111, 105, 110], h.cps.toList, o.cps.toList, [116, 111], t.cps.toList, [98, 121], (numS a).cps.toList]
  | .part o l r a m => [[112, 97, 114, 116], o.cps.toList, [116, 111], l.cps.toList, r.cps.toList, [98, 121], (numS a).cps.toList, (numS m).cps.toList]
theorem text_ws {r : RowD} (h : r.drawn) : r.text.cps.toList = cat32 r.ws := by
  cases r with
  | step k o t a =>
    have e := (kw_ok h.1).1
    have n0 : kw k ≠ [] := fun z => by
      rcases (kw_ok h.1).2.2 with q | q
      · rw [z] at q; exact nomatch q
      · rw [z] at q; exact nomatch q.1
    show (k.cps ++ #[32] ++ o.cps ++ #[32] ++ #[116, 111] ++ #[32] ++ t.cps ++ #[32] ++ #[98, 121] ++ #[32] ++ (numS a).cps : Array Nat).toList = cat32 (kw k ++ [o.cps.toList, [116, 111], t.cps.toList, [98, 121], (numS a).cps.toList])
    rw [cat_app (kw k) [o.cps.toList, [116, 111], t.cps.toList, [98, 121], (numS a).cps.toList] n0 (List.cons_ne_nil _ _), e]
    simp [cat32]
  | join k o t a =>
    show (#[106, 111, 105, 110] ++ #[32] ++ k.cps ++ #[32] ++ o.cps ++ #[32] ++ #[116, 111] ++ #[32] ++ t.cps ++ #[32] ++ #[98, 121] ++ #[32] ++ (numS a).cps : Array Nat).toList = _
    simp [RowD.ws, cat32]
  | part k o t a m =>
    show (#[112, 97, 114, 116] ++ #[32] ++ k.cps ++ #[32] ++ #[116, 111] ++ #[32] ++ o.cps ++ #[32] ++ t.cps ++ #[32] ++ #[98, 121] ++ #[32] ++ (numS a).cps ++ #[32] ++ (numS m).cps : Array Nat).toList = _
    simp [RowD.ws, cat32]
theorem ws_free {r : RowD} (h : r.drawn) : ∀ x, x ∈ r.ws → 32 ∉ x := by
  intro x hx
  cases r with
  | step k o t a =>
    obtain ⟨d1, d2, d3, d4⟩ := h
    rcases List.mem_append.mp hx with hx | hx
    · exact (kw_ok d1).2.1 x hx
    · simp only [List.mem_cons, List.not_mem_nil, or_false] at hx
      rcases hx with rfl | rfl | rfl | rfl | rfl
      · exact no32 (chk_of chkA d2).2.2
      · decide
      · exact no32 (chk_of chkS d3).2.2
      · decide
      · exact num_free d4
  | join k o t a =>
    obtain ⟨d1, d2, d3, d4⟩ := h
    simp only [RowD.ws, List.mem_cons, List.not_mem_nil, or_false] at hx
    rcases hx with rfl | rfl | rfl | rfl | rfl | rfl | rfl
    · decide
    · exact no32 (chk_of chkA d1).2.2
    · exact no32 (chk_of chkA d2).2.2
    · decide
    · exact no32 (chk_of chkO d3).2.2
    · decide
    · exact num_free d4
  | part k o t a m =>
    obtain ⟨d1, d2, d3, d4, d5⟩ := h
    simp only [RowD.ws, List.mem_cons, List.not_mem_nil, or_false] at hx
    rcases hx with rfl | rfl | rfl | rfl | rfl | rfl | rfl | rfl
    · decide
    · exact no32 (chk_of chkA d1).2.2
    · decide
    · exact no32 (chk_of chkS d2).2.2
    · exact no32 (chk_of chkS d3).2.2
    · decide
    · exact num_free d4
    · exact num_free d5
theorem ws_ne (r : RowD) : r.ws ≠ [] := by
  cases r with
  | step k o t a => exact fun z => nomatch (List.append_eq_nil_iff.mp z).2
  | join k o t a => exact fun z => nomatch z
  | part k o t a m => exact fun z => nomatch z
theorem cps_inj {x y : Str} (h : x.cps.toList = y.cps.toList) : x = y := Str_eq (Array.toList_inj.mp h)
theorem ws_len_step {k o t : Str} {a : Int} (h : (RowD.step k o t a).drawn) : (RowD.step k o t a).ws.length = 6 ∨ (RowD.step k o t a).ws.length = 7 ∧ (RowD.step k o t a).ws.head? = some [108, 97, 116, 101] := by
  have e : (RowD.step k o t a).ws.length = (kw k).length + 5 := by
    show (kw k ++ _).length = _
    rw [List.length_append]
    rfl
  rcases (kw_ok h.1).2.2 with q | ⟨q1, q2⟩
  · exact .inl (by rw [e, q])
  · refine .inr ⟨by rw [e, q1], ?_⟩
    show (kw k ++ _).head? = _
    rw [List.head?_append, q2]
    rfl
theorem text_inj {r r2 : RowD} (h : r.drawn) (h2 : r2.drawn) (e : r.text = r2.text) : r = r2 := by
  have w : r.ws = r2.ws := cat_inj (ws_free h) (ws_free h2) (ws_ne r) (ws_ne r2) (by rw [← text_ws h, ← text_ws h2, e])
  have wl := congrArg List.length w
  have wh := congrArg List.head? w
  cases r with
  | step k o t a =>
    cases r2 with
    | step k' o' t' a' =>
      obtain ⟨e1, e2⟩ := List.append_inj' (show kw k ++ [o.cps.toList, [116, 111], t.cps.toList, [98, 121], (numS a).cps.toList] = kw k' ++ [o'.cps.toList, [116, 111], t'.cps.toList, [98, 121], (numS a').cps.toList] from w) rfl
      have ek : k = k' := cps_inj (by rw [← (kw_ok h.1).1, ← (kw_ok h2.1).1, e1])
      simp only [List.cons.injEq, and_true, true_and] at e2
      obtain ⟨eo, et, ea⟩ := e2
      rw [ek, cps_inj eo, cps_inj et, num_inj h.2.2.2 h2.2.2.2 (cps_inj ea)]
    | join k' o' t' a' =>
      rcases ws_len_step h with q | ⟨_, q⟩
      · rw [q] at wl; exact absurd wl (show ¬ 6 = 7 by decide)
      · rw [q] at wh; exact absurd wh (show ¬ some [108, 97, 116, 101] = some [106, 111, 105, 110] by decide)
    | part k' o' t' a' m' =>
      rcases ws_len_step h with q | ⟨q, _⟩
      · rw [q] at wl; exact absurd wl (show ¬ 6 = 8 by decide)
      · rw [q] at wl; exact absurd wl (show ¬ 7 = 8 by decide)
  | join k o t a =>
    cases r2 with
    | step k' o' t' a' =>
      rcases ws_len_step h2 with q | ⟨_, q⟩
      · rw [q] at wl; exact absurd wl (show ¬ 7 = 6 by decide)
      · rw [q] at wh; exact absurd wh (show ¬ some [106, 111, 105, 110] = some [108, 97, 116, 101] by decide)
    | join k' o' t' a' =>
      simp only [RowD.ws, List.cons.injEq, and_true, true_and] at w
      obtain ⟨ek, eo, et, ea⟩ := w
      rw [cps_inj ek, cps_inj eo, cps_inj et, num_inj h.2.2.2 h2.2.2.2 (cps_inj ea)]
    | part k' o' t' a' m' => exact absurd wl (show ¬ 7 = 8 by decide)
  | part k o t a m =>
    cases r2 with
    | step k' o' t' a' =>
      rcases ws_len_step h2 with q | ⟨q, _⟩
      · rw [q] at wl; exact absurd wl (show ¬ 8 = 6 by decide)
      · rw [q] at wl; exact absurd wl (show ¬ 8 = 7 by decide)
    | join k' o' t' a' => exact absurd wl (show ¬ 8 = 7 by decide)
    | part k' o' t' a' m' =>
      simp only [RowD.ws, List.cons.injEq, and_true, true_and] at w
      obtain ⟨ek, eo, et, ea, em⟩ := w
      rw [cps_inj ek, cps_inj eo, cps_inj et, num_inj h.2.2.2.1 h2.2.2.2.1 (cps_inj ea), num_inj h.2.2.2.2 h2.2.2.2.2 (cps_inj em)]
/-! ### rows as data -/
def dat (r : RowD) : PyData := .tuple (r.tup.map toD)
theorem eqv_dat {r r2 : RowD} (h : r.drawn) (h2 : r2.drawn) : PyData.eqv (dat r) (dat r2) = decide (r.text = r2.text) := by
  rw [Bool.eq_iff_iff, decide_eq_true_iff]
  have key : PyData.eqv (dat r) (dat r2) = true ↔ r = r2 := by
    cases r <;> cases r2 <;> simp [dat, RowD.tup, toD, PyData.eqv, PyData.eqvAll]
    · exact fun e => absurd e (by decide)
    · exact fun e => absurd e (by decide)
  rw [key]
  exact ⟨fun e => by rw [e], text_inj h h2⟩
theorem all_ok : (namesA ++ namesS ++ namesO ++ kindsV).all (fun v => match v with | .str z => PyData.strOk z && decide (z.length ≤ 9) | _ => false) = true := by decide +kernel
theorem str_ok {z : Str} (h : V.str z ∈ namesA ++ namesS ++ namesO ++ kindsV) : PyData.strOk z = true ∧ z.length ≤ 9 := by
  have e : (PyData.strOk z && decide (z.length ≤ 9)) = true := List.all_eq_true.mp all_ok _ h
  obtain ⟨e1, e2⟩ := Bool.and_eq_true_iff.mp e
  exact ⟨e1, of_decide_eq_true e2⟩
theorem strs_ok {r : RowD} (h : r.drawn) : ∀ z, V.str z ∈ r.tup → PyData.strOk z = true ∧ z.length ≤ 9 := by
  intro z hz
  have inA : ∀ {z}, V.str z ∈ namesA → V.str z ∈ namesA ++ namesS ++ namesO ++ kindsV := fun h => List.mem_append_left _ (List.mem_append_left _ (List.mem_append_left _ h))
  have inS : ∀ {z}, V.str z ∈ namesS → V.str z ∈ namesA ++ namesS ++ namesO ++ kindsV := fun h => List.mem_append_left _ (List.mem_append_left _ (List.mem_append_right _ h))
  have inO : ∀ {z}, V.str z ∈ namesO → V.str z ∈ namesA ++ namesS ++ namesO ++ kindsV := fun h => List.mem_append_left _ (List.mem_append_right _ h)
  have inK : ∀ {z}, V.str z ∈ kindsV → V.str z ∈ namesA ++ namesS ++ namesO ++ kindsV := fun h => List.mem_append_right _ h
  cases r with
  | step k o t a =>
    obtain ⟨d1, d2, d3, d4⟩ := h
    simp only [RowD.tup, List.mem_cons, List.not_mem_nil, or_false, V.str.injEq, reduceCtorEq] at hz
    rcases hz with rfl | rfl | rfl | rfl
    · exact ⟨by decide +kernel, by decide⟩
    · exact str_ok (inK d1)
    · exact str_ok (inA d2)
    · exact str_ok (inS d3)
  | join k o t a =>
    obtain ⟨d1, d2, d3, d4⟩ := h
    simp only [RowD.tup, List.mem_cons, List.not_mem_nil, or_false, V.str.injEq, reduceCtorEq] at hz
    rcases hz with rfl | rfl | rfl | rfl
    · exact ⟨by decide +kernel, by decide⟩
    · exact str_ok (inA d1)
    · exact str_ok (inA d2)
    · exact str_ok (inO d3)
  | part k o t a m =>
    obtain ⟨d1, d2, d3, d4⟩ := h
    simp only [RowD.tup, List.mem_cons, List.not_mem_nil, or_false, V.str.injEq, reduceCtorEq] at hz
    rcases hz with rfl | rfl | rfl | rfl
    · exact ⟨by decide +kernel, by decide⟩
    · exact str_ok (inA d1)
    · exact str_ok (inS d2)
    · exact str_ok (inS d3)
theorem dp_flats {K : PySem.W.Frag} {H : Hp} : ∀ xs : List V, xs.all flatV = true → DpAll K H xs (xs.map toD)
  | [], _ => .nil
  | x :: xs, h => by
    obtain ⟨h1, h2⟩ := Bool.and_eq_true_iff.mp (show (flatV x && xs.all flatV) = true from h)
    exact .cons (dp_toD h1) (dp_flats xs h2)
theorem tup_flat (r : RowD) : r.tup.all flatV = true := by cases r <;> rfl
theorem ev_dat {K : PySem.W.Frag} {R : Res} {σ : L2.St} {H : Hp} {te : TE} {r : RowD} (h : EvP R te σ H (TupN R r.tup)) : EvP R te σ H (Rp K R (dat r)) := ev_imp h fun u H' g ⟨p, e, hp, hd⟩ => e ▸ fun H2 g2 => .tup (.inl (.inl (g2.2 p _ hp hd.1 hd.2))) (dp_flats _ (tup_flat r))
theorem shown7 {a : Int} (h : addOk a = true) : (PyData.shown (.int a)).length ≤ 13 := PyData.shown_int_le (by
  obtain ⟨h1, h2⟩ := Bool.and_eq_true_iff.mp h
  have h1' : -3 ≤ a := of_decide_eq_true h1
  have h2' : a ≤ 3 := of_decide_eq_true h2
  omega)
theorem weight7 {a : Int} (h : addOk a = true) : PyData.weight (.int a) ≤ 9 := by
  have := List.all_eq_true.mp (show adds7.all (fun a => decide (PyData.weight (.int a) ≤ 9)) = true by decide +kernel) a (add_mem h)
  simpa using this
theorem dat_lay {r : RowD} (h : r.drawn) : PyData.layable0 (dat r) = true ∧ PyData.intsShort 13 (dat r) = true ∧ (dat r).showable = true ∧ (dat r).hasDict = false ∧ (dat r).depth ≤ 50 := by
  have sk := strs_ok h
  cases r with
  | step k o t a =>
    obtain ⟨s1, l1⟩ := sk "step" (by simp [RowD.tup])
    obtain ⟨s2, l2⟩ := sk k (by simp [RowD.tup])
    obtain ⟨s3, l3⟩ := sk o (by simp [RowD.tup])
    obtain ⟨s4, l4⟩ := sk t (by simp [RowD.tup])
    have ha := h.2.2.2
    have w := weight7 ha
    have q := shown7 ha
    have g := add_log ha
    simp only [Str.length] at l1 l2 l3 l4
    simp only [dat, RowD.tup, toD, List.map_cons, List.map_nil, PyData.layable0, PyData.canLay0, PyData.canLayAll0, PyData.depth, PyData.depthAll, PyData.weight, PyData.weightAll, PyData.intsShort, PyData.intsShortAll, PyData.showable, PyData.showableAll, PyData.hasDict, PyData.hasDictAll, s1, s2, s3, s4, Bool.and_true, Bool.true_and, Bool.and_eq_true, decide_eq_true_eq] at w ⊢
    refine ⟨⟨?_, ?_⟩, q, g, rfl, ?_⟩ <;> omega
  | join k o t a =>
    obtain ⟨s1, l1⟩ := sk "join" (by simp [RowD.tup])
    obtain ⟨s2, l2⟩ := sk k (by simp [RowD.tup])
    obtain ⟨s3, l3⟩ := sk o (by simp [RowD.tup])
    obtain ⟨s4, l4⟩ := sk t (by simp [RowD.tup])
    have ha := h.2.2.2
    have w := weight7 ha
    have q := shown7 ha
    have g := add_log ha
    simp only [Str.length] at l1 l2 l3 l4
    simp only [dat, RowD.tup, toD, List.map_cons, List.map_nil, PyData.layable0, PyData.canLay0, PyData.canLayAll0, PyData.depth, PyData.depthAll, PyData.weight, PyData.weightAll, PyData.intsShort, PyData.intsShortAll, PyData.showable, PyData.showableAll, PyData.hasDict, PyData.hasDictAll, s1, s2, s3, s4, Bool.and_true, Bool.true_and, Bool.and_eq_true, decide_eq_true_eq] at w ⊢
    refine ⟨⟨?_, ?_⟩, q, g, rfl, ?_⟩ <;> omega
  | part k o t a m =>
    obtain ⟨s1, l1⟩ := sk "part" (by simp [RowD.tup])
    obtain ⟨s2, l2⟩ := sk k (by simp [RowD.tup])
    obtain ⟨s3, l3⟩ := sk o (by simp [RowD.tup])
    obtain ⟨s4, l4⟩ := sk t (by simp [RowD.tup])
    have ha := h.2.2.2.1
    have hm := h.2.2.2.2
    have w := weight7 ha
    have q := shown7 ha
    have g := add_log ha
    have w2 := weight7 hm
    have q2 := shown7 hm
    have g2 := add_log hm
    simp only [Str.length] at l1 l2 l3 l4
    simp only [dat, RowD.tup, toD, List.map_cons, List.map_nil, PyData.layable0, PyData.canLay0, PyData.canLayAll0, PyData.depth, PyData.depthAll, PyData.weight, PyData.weightAll, PyData.intsShort, PyData.intsShortAll, PyData.showable, PyData.showableAll, PyData.hasDict, PyData.hasDictAll, s1, s2, s3, s4, Bool.and_true, Bool.true_and, Bool.and_eq_true, decide_eq_true_eq] at w w2 ⊢
    refine ⟨⟨?_, ?_⟩, ⟨q, q2⟩, ⟨g, g2⟩, rfl, ?_⟩ <;> omega
theorem dat_shaped {r : RowD} (h : r.drawn) : SeqAt.shaped (dat r) = true := SeqAt.shaped_of_layable (dat_lay h).1
theorem dat_short {r : RowD} (h : r.drawn) : (dat r).shown.length ≤ sizeLine := PyData.shown_fits_of_layable0 (B := 13) (by decide) (by decide) (dat_lay h).1 (dat_lay h).2.1
theorem ev_repr {K : PySem.W.Frag} {R : Res} {σ : L2.St} {H : Hp} {te : TE} {r : RowD} (d : r.drawn) (h : EvP R te σ H (TupN R r.tup)) : EvP R (tCB (rReprD K) (tCons te tNil)) σ H (Is (.str (dat r).shown)) := ev_cb (ea_cons stb_rp (ev_dat (K := K) h) ea_nil) fun vs H1 g ps Q q => by
  match vs, ps with
  | [u], ⟨hu, _⟩ => exact ⟨u, dat r, rfl, hu.now g.1, (dat_lay d).2.2.1, (dat_lay d).2.2.2.1, (dat_lay d).2.2.2.2, dat_short d, q _ H1 g.at rfl⟩
section
variable {P : Program} {w : World} {A : Ads} {K : PySem.W.Frag} {mg : Str → Option Value} {base : Heap}
theorem rowN_add {R : Res} {p : Addr} {r : RowD} {u : V} {H : Hp} (h : RowN A (R.add p) r u H) : RowN A R r u H := by
  obtain ⟨x, dx, t, e, h1, h2, d1, d2⟩ := h
  exact ⟨x, dx, t, e, h1, h2, ⟨d1.1, fun z => d1.2 (List.mem_cons_of_mem _ z)⟩, d2.1, fun z => d2.2 (List.mem_cons_of_mem _ z)⟩
theorem deal_offI {R : Res} {a b p : Addr} (I : IsDeal R a b) (hd : p ∉ R.D ∧ p ∉ R.h) : p ≠ a ∧ p ≠ b := by
  have := hd.1
  rw [I.d] at this
  simp at this
  exact this
theorem ev_names {a b : Addr} {σ : L2.St} {H : Hp} {ta tb : TE} {E : XK} (h1 : EvP (DealR a b) ta σ H (Is (.ref a))) (h2 : EvP (DealR a b) tb σ H (Is (.int 3))) :
    EvP (DealR a b) (tCall spNames [] E (tCons ta (tCons tb tNil))) σ H (fun u H => ∃ ms : List Str, ms.length = 3 ∧ (∀ m, m ∈ ms → m ∈ names13) ∧ LstN (DealR a b) (ms.map V.str) u H) :=
  ev_dc isDeal_R (ea_is h1 (ea_is h2 ea_nil)) fun vs H1 g ps d Q q => by
    cases psOk2 ps
    exact ⟨a, b, rfl, d, fun x ys H' e i n1 n2 hx d' r => q _ H' d' r ⟨ys, e, i, x, rfl, hx, off_deal n1 n2⟩⟩
theorem ev_any {R : Res} {a b : Addr} (I : IsDeal R a b) {σ : L2.St} {H : Hp} {ta tb : TE} {ms : List Str} {E : XK} (ml : ms.length = 3) (mi : ∀ m, m ∈ ms → m ∈ names13) (h1 : EvP R ta σ H (Is (.ref a))) (h2 : EvP R tb σ H (LstN R (ms.map V.str))) :
    EvP R (tCall spAny [] E (tCons ta (tCons tb tNil))) σ H (fun u H => ∃ r : RowD, r.drawn ∧ TupN R r.tup u H) :=
  ev_dc I (ea_is h1 (ea_cons stb_lstN h2 ea_nil)) fun vs H1 g ps d Q q => by
    obtain ⟨u, rfl, p, rfl, hp, hd⟩ := psOk_2 ps
    obtain ⟨n1, n2⟩ := deal_offI I hd
    exact ⟨a, b, p, ms, rfl, d, hp, n1, n2, ml, mi, fun t r H' dr hn ht d' re => q _ H' d' re ⟨r, dr, t, rfl, ht, off g.1 hn⟩⟩
theorem ev_bent {a b : Addr} {σ : L2.St} {H : Hp} {ta tb tc : TE} {ms : List Str} {r : RowD} {E : XK} (ml : ms.length = 3) (mi : ∀ m, m ∈ ms → m ∈ names13) (dr : r.drawn) (h1 : EvP (DealR a b) ta σ H (Is (.ref a))) (h2 : EvP (DealR a b) tb σ H (TupN (DealR a b) r.tup)) (h3 : EvP (DealR a b) tc σ H (LstN (DealR a b) (ms.map V.str))) :
    EvP (DealR a b) (tCall spBent [] E (tCons ta (tCons tb (tCons tc tNil)))) σ H (fun u H => ∃ r : RowD, r.drawn ∧ TupN (DealR a b) r.tup u H) :=
  ev_dc isDeal_R (ea_is h1 (ea_cons stb_tupN h2 (ea_cons stb_lstN h3 ea_nil))) fun vs H1 g ps d Q q => by
    match vs, ps with
    | [v1, v2, v3], ⟨e1, ⟨t, e2, ht, td⟩, ⟨p, e3, hp, pd⟩, _⟩ =>
      cases e1; cases e2; cases e3
      obtain ⟨n1, n2⟩ := deal_off td
      obtain ⟨n3, n4⟩ := deal_off pd
      exact ⟨a, b, t, p, r, ms, rfl, d, ht, n1, n2, dr, hp, n3, n4, ml, mi, fun t2 r2 H' dr2 m1 m2 ht2 d' re => q _ H' d' re ⟨r2, dr2, t2, rfl, ht2, off_deal m1 m2⟩⟩
def rowAny : RowD := .part "any" "same" "same" 0 0
def rowAll : RowD := .join "any" "any" "one" 0
theorem any_good : rowAny.good := ⟨by decide +kernel, by decide, by decide, by decide⟩
theorem all_good : rowAll.good := ⟨by decide +kernel, by decide, by decide, by decide⟩
theorem any_all : ¬ rowAny.text = rowAll.text := by decide +kernel
theorem form3 (r : RowD) : [decide (r.form = "step"), decide (r.form = "join"), decide (r.form = "part")].count true = 1 := by
  cases r
  · exact (by decide : [decide (("step" : Str) = "step"), decide (("step" : Str) = "join"), decide (("step" : Str) = "part")].count true = 1)
  · exact (by decide : [decide (("join" : Str) = "step"), decide (("join" : Str) = "join"), decide (("join" : Str) = "part")].count true = 1)
  · exact (by decide : [decide (("part" : Str) = "step"), decide (("part" : Str) = "join"), decide (("part" : Str) = "part")].count true = 1)
theorem row_nfs (T : Tx A K mg) (r : RowD) : PySem.W.notFirst K (r.cls A) (.type "str") = true := by
  cases r
  · exact notFirst_of T.ssS
  · exact notFirst_of T.ssJ
  · exact notFirst_of T.ssP
theorem row_nft (T : Tx A K mg) (r : RowD) : PySem.W.notFirst K (r.cls A) (.type "tuple") = true := by
  cases r
  · exact notFirst_of T.stS
  · exact notFirst_of T.stJ
  · exact notFirst_of T.stP
theorem str_ty {z : Str} (v : V) (H' : Hp) (h : Is (.str z) v H') : TyX K H' v (.type "str") ∧ Al Free (fun H' => TyX K H' v (.type "str")) H' := by
  cases h
  exact ⟨.base (.str _), fun _ _ => .base (.str _)⟩
theorem tup_ty {R : Res} {vs : List V} (v : V) (H' : Hp) (h : TupN R vs v H') : TyX K H' v (.type "tuple") ∧ Al Free (fun H' => TyX K H' v (.type "tuple")) H' := by
  obtain ⟨p, rfl, hp, _⟩ := h
  exact ⟨.base (.tup hp), al_free fun H2 e => .base (.tup (e _ _ hp))⟩
/-! ### the law -/
def spLaw (K : PySem.W.Frag) : Sp := fun vs H Q _ => ∃ (l : Addr) (is : List Int), vs = [.ref l] ∧ SqL K H l (is.map V.int) ∧ ∀ H', Q (.bl true) H'
theorem ok_law (T : Tx A K mg) (c_law_deal : CalX P w K mg base CX0 1 "_law_deal" (spDeal K)) (c_law_names : CalX P w K mg base CX0 3 "_law_names" spNames) (c_law_any_row : CalX P w K mg base CX0 3 "_law_any_row" spAny) (c_law_bent : CalX P w K mg base CX0 3 "_law_bent" spBent)
    (c_law_row_of : CalX P w K mg base CX0 5 "_law_row_of" (spRowOf A)) (c_law_row_text : CalX P w K mg base CX0 1 "_law_row_text" spText) (c_law_attributes : CalX P w K mg base CX0 1 "_law_attributes" (spAttr A))
    (c_Join : MakX P w K mg base CX0 3 "Join" A.Join (spJoin0 A)) (c_Part : MakX P w K mg base CX0 3 "Part" A.Part (spPart0 A))
    {fdS : FuncData} (FS : FnOk P w K mg base CX0 1 A.f_Row_str fdS ["self"] (spRowStr A)) (bS : Binds K fdS ["self"] [])
    {fdE : FuncData} (FE : FnOk P w K mg base CX0 4 A.f_Row_eq fdE ["self", "other"] (spRowEq A K)) (bE : Binds K fdE ["self", "other"] []) {f : Addr} {fd : FuncData} (F : Fun K "law" "law" s_law f fd) : FnG P w K mg base CX0 8 f fd ["_law_script"] (spLaw K) := by
  refine fun_okG F sc_law (fun vs H Q E h => ?_) (fun cdv A' outer s H vs Q E hG hr h => ?_)
  · obtain ⟨l, is, rfl, _⟩ := h; rfl
  · obtain ⟨l, is, rfl, hl, q⟩ := h
    refine ⟨_, (pss_cons (ps_set (i := 1) sc_law.nd rfl (by first | exact .inl rfl | exact .inr rfl) (pe_cal c_law_deal hr (by decide) pass0 (pa_cons (pv 0) (pa_cons pe_int pa_nil))))
      (pss_cons (ps_for PassesOwn.leaving rfl (pi_range1 (by rfl) T.z_range (pa_cons pe_int pa_nil)) (pg_name (i := 2) sc_law.nd rfl (by first | exact .inl rfl | exact .inr rfl)) (pss_cons (ps_set (i := 3) sc_law.nd rfl (by first | exact .inl rfl | exact .inr rfl) (pe_cal c_law_names hr (by decide) pass0 (pa_cons (pv 1) (pa_cons pe_int pa_nil))))
      (pss_cons (ps_setLc (i := 4) (own := [("_law_more", 11)]) (g := gName 11) rfl sc_law.nd rfl rfl (sw_true rfl rfl rfl (by decide +kernel)) (pi_range1 (by rfl) T.z_range (pa_cons pe_int pa_nil)) (blkOk_by (own := [("_law_more", 11)]) (N := ["_law_script", "_law_deal_here", "_law_turn", "_law_marks", "_law_some", "_law_made", "_law_row", "_law_one", "_law_at", "_law_other", "_law_is_same", "_law_more"]) (sc := defScope s_law) (by decide +kernel)) (fun _ _ _ _ _ => pg_name (i := 11) sc_law.nd rfl (Or.inl rfl)) (fun _ _ _ _ _ => pts_nil) (fun _ _ _ _ _ => (pe_cal c_law_any_row hr (by decide) pass0 (pa_cons (pv 1) (pa_cons (pv 3) pa_nil)))))
      (pss_cons (ps_expr (pe_bm PySem.F.plainAttrs_list PySem.F.slot_list_append PySem.F.type_list_append mt_append (pv 4) (pa_cons (pe_cal c_law_bent hr (by decide) pass0 (pa_cons (pv 1) (pa_cons (pe_ix ix_list (pv 4) pe_int (fun _ _ => rfl)) (pa_cons (pv 3) pa_nil)))) pa_nil)))
      (pss_cons (ps_setLc (i := 5) (own := [("_law_row", 6)]) (g := gName 6) rfl sc_law.nd rfl rfl (sw_true rfl rfl rfl (by decide +kernel)) (pi_list (pv 4)) (blkOk_by (own := [("_law_row", 6)]) (N := ["_law_script", "_law_deal_here", "_law_turn", "_law_marks", "_law_some", "_law_made", "_law_row", "_law_one", "_law_at", "_law_other", "_law_is_same", "_law_more"]) (sc := defScope s_law) (by decide +kernel)) (fun _ _ _ _ _ => pg_name (i := 6) sc_law.nd rfl (Or.inl rfl)) (fun _ _ _ _ _ => pts_nil) (fun _ _ _ _ _ => (pe_cal c_law_row_of hr (by decide) pass0 (pa_cons (pv 6) pa_nil))))
      (pss_cons (ps_for PassesOwn.leaving rfl (pi_zip (by rfl) T.z_zip (pa_cons (pv 4) (pa_cons (pv 5) pa_nil))) (pg_tup (by rfl) (pgs_cons (pg_name (i := 6) sc_law.nd rfl (by first | exact .inl rfl | exact .inr rfl)) (pgs_cons (pg_name (i := 7) sc_law.nd rfl (by first | exact .inl rfl | exact .inr rfl)) pgs_nil))) (pss_cons (ps_if (PW.pt (pw_or (pt_not (pt_val (pe_callB call_isi (by rfl) T.z_isinstance (by decide +kernel) (pa_cons (pv 7) (pa_cons (pe_glob (v := .ref A.Row) rfl T.g_Row rfl) pa_nil))))) (pw_or (pt_cmpR op_ne (pe_callB (call_repr_data hG hr) (by rfl) T.z_repr (by decide +kernel) (pa_cons (pe_cal c_law_attributes hr (by decide) pass0 (pa_cons (pv 7) pa_nil)) pa_nil)) (pe_callB (call_repr_data hG hr) (by rfl) T.z_repr (by decide +kernel) (pa_cons (pv 6) pa_nil)) (nomark _)) (pw_or1 (pt_cmpR op_ne (pe_callTy (CallR.or (call_str_own (C := A.Step) ⟨T.m_Step_str, T.i_f_Row_str⟩ FS (hr.mono (by decide)) bS pass0) (CallR.or (call_str_own (C := A.Join) ⟨T.m_Join_str, T.i_f_Row_str⟩ FS (hr.mono (by decide)) bS pass0) (call_str_own (C := A.Part) ⟨T.m_Part_str, T.i_f_Row_str⟩ FS (hr.mono (by decide)) bS pass0))) (by rfl) T.z_str (by decide +kernel) (pa_cons (pv 7) pa_nil)) (pe_cal c_law_row_text hr (by decide) pass0 (pa_cons (pv 6) pa_nil)) (nomark _)))))) (pss_one (ps_ret pe_bl)) pss_nil)
      (pss_cons (ps_if (pt_cmpR op_ne (pe_bm PySem.F.plainAttrs_list PySem.F.slot_list_count PySem.F.type_list_count mt_lcountB (pe_lst (pa_cons (pe_callB call_isi (by rfl) T.z_isinstance (by decide +kernel) (pa_cons (pv 7) (pa_cons (pe_glob (v := .ref A.Step) rfl T.g_Step rfl) pa_nil))) (pa_cons (pe_callB call_isi (by rfl) T.z_isinstance (by decide +kernel) (pa_cons (pv 7) (pa_cons (pe_glob (v := .ref A.Join) rfl T.g_Join rfl) pa_nil))) (pa_cons (pe_callB call_isi (by rfl) T.z_isinstance (by decide +kernel) (pa_cons (pv 7) (pa_cons (pe_glob (v := .ref A.Part) rfl T.g_Part rfl) pa_nil))) pa_nil)))) (pa_cons pe_bl pa_nil)) pe_int (nomark _)) (pss_one (ps_ret pe_bl)) pss_nil)
      (pss_one (ps_if (PW.pt (pw_or (pt_cmpR (OpR.or (op_own_eq (C := A.Step) ⟨T.m_Step_eq, T.o_Step.ne, T.i_f_Row_eq, T.o_Step.mo⟩ FE (hr.mono (by decide)) bE pass0) (OpR.or (op_own_eq (C := A.Join) ⟨T.m_Join_eq, T.o_Join.ne, T.i_f_Row_eq, T.o_Join.mo⟩ FE (hr.mono (by decide)) bE pass0) (op_own_eq (C := A.Part) ⟨T.m_Part_eq, T.o_Part.ne, T.i_f_Row_eq, T.o_Part.mo⟩ FE (hr.mono (by decide)) bE pass0))) (pv 7) (pe_callTy (CallR.or (call_str_own (C := A.Step) ⟨T.m_Step_str, T.i_f_Row_str⟩ FS (hr.mono (by decide)) bS pass0) (CallR.or (call_str_own (C := A.Join) ⟨T.m_Join_str, T.i_f_Row_str⟩ FS (hr.mono (by decide)) bS pass0) (call_str_own (C := A.Part) ⟨T.m_Part_str, T.i_f_Row_str⟩ FS (hr.mono (by decide)) bS pass0))) (by rfl) T.z_str (by decide +kernel) (pa_cons (pv 7) pa_nil)) (nomark _)) (pw_or (pt_cmpR (OpR.or (op_own_eq (C := A.Step) ⟨T.m_Step_eq, T.o_Step.ne, T.i_f_Row_eq, T.o_Step.mo⟩ FE (hr.mono (by decide)) bE pass0) (OpR.or (op_own_eq (C := A.Join) ⟨T.m_Join_eq, T.o_Join.ne, T.i_f_Row_eq, T.o_Join.mo⟩ FE (hr.mono (by decide)) bE pass0) (op_own_eq (C := A.Part) ⟨T.m_Part_eq, T.o_Part.ne, T.i_f_Row_eq, T.o_Part.mo⟩ FE (hr.mono (by decide)) bE pass0))) (pv 7) (pv 6) (nomark _)) (pw_or1 (pt_cmpR (OpR.or (op_own_ne (C := A.Step) ⟨T.m_Step_eq, T.o_Step.ne, T.i_f_Row_eq, T.o_Step.mo⟩ FE (hr.mono (by decide)) bE pass0) (OpR.or (op_own_ne (C := A.Join) ⟨T.m_Join_eq, T.o_Join.ne, T.i_f_Row_eq, T.o_Join.mo⟩ FE (hr.mono (by decide)) bE pass0) (op_own_ne (C := A.Part) ⟨T.m_Part_eq, T.o_Part.ne, T.i_f_Row_eq, T.o_Part.mo⟩ FE (hr.mono (by decide)) bE pass0))) (pv 7) (pe_cal c_law_row_of hr (by decide) pass0 (pa_cons (pv 6) pa_nil)) (nomark _)))))) (pss_one (ps_ret pe_bl)) pss_nil)))))
      (pss_one (ps_for PassesOwn.leaving rfl (pi_range1 (by rfl) T.z_range (pa_cons (pe_callB call_len_seq (by rfl) T.z_len (by decide +kernel) (pa_cons (pv 4) pa_nil)) pa_nil)) (pg_name (i := 8) sc_law.nd rfl (by first | exact .inl rfl | exact .inr rfl)) (pss_one (ps_for PassesOwn.leaving rfl (pi_range1 (by rfl) T.z_range (pa_cons (pe_callB call_len_seq (by rfl) T.z_len (by decide +kernel) (pa_cons (pv 4) pa_nil)) pa_nil)) (pg_name (i := 9) sc_law.nd rfl (by first | exact .inl rfl | exact .inr rfl)) (pss_cons (ps_set (i := 10) sc_law.nd rfl (by first | exact .inl rfl | exact .inr rfl) (pe_cmpR (op_eqD hr.units) (pe_ix ix_list (pv 4) (pv 8) (fun _ _ => rfl)) (pe_ix ix_list (pv 4) (pv 9) (fun _ _ => rfl)) (nomark _)))
      (pss_one (ps_if (PW.pt (pw_or (pt_cmpR op_ne (pe_cmpR (OpR.or (op_own_eq (C := A.Step) ⟨T.m_Step_eq, T.o_Step.ne, T.i_f_Row_eq, T.o_Step.mo⟩ FE (hr.mono (by decide)) bE pass0) (OpR.or (op_own_eq (C := A.Join) ⟨T.m_Join_eq, T.o_Join.ne, T.i_f_Row_eq, T.o_Join.mo⟩ FE (hr.mono (by decide)) bE pass0) (op_own_eq (C := A.Part) ⟨T.m_Part_eq, T.o_Part.ne, T.i_f_Row_eq, T.o_Part.mo⟩ FE (hr.mono (by decide)) bE pass0))) (pe_ix ix_list (pv 5) (pv 8) (fun _ _ => rfl)) (pe_ix ix_list (pv 5) (pv 9) (fun _ _ => rfl)) (nomark _)) (pv 10) (nomark _)) (pw_or1 (pt_cmpR op_eq (pe_cmpR (OpR.or (op_own_ne (C := A.Step) ⟨T.m_Step_eq, T.o_Step.ne, T.i_f_Row_eq, T.o_Step.mo⟩ FE (hr.mono (by decide)) bE pass0) (OpR.or (op_own_ne (C := A.Join) ⟨T.m_Join_eq, T.o_Join.ne, T.i_f_Row_eq, T.o_Join.mo⟩ FE (hr.mono (by decide)) bE pass0) (op_own_ne (C := A.Part) ⟨T.m_Part_eq, T.o_Part.ne, T.i_f_Row_eq, T.o_Part.mo⟩ FE (hr.mono (by decide)) bE pass0))) (pe_ix ix_list (pv 5) (pv 8) (fun _ _ => rfl)) (pe_ix ix_list (pv 5) (pv 9) (fun _ _ => rfl)) (nomark _)) (pv 10) (nomark _))))) (pss_one (ps_ret pe_bl)) pss_nil)))))))))))))
      (pss_one (ps_ret (pe_cmpR (OpR.or (op_own_ne (C := A.Step) ⟨T.m_Step_eq, T.o_Step.ne, T.i_f_Row_eq, T.o_Step.mo⟩ FE (hr.mono (by decide)) bE pass0) (OpR.or (op_own_ne (C := A.Join) ⟨T.m_Join_eq, T.o_Join.ne, T.i_f_Row_eq, T.o_Join.mo⟩ FE (hr.mono (by decide)) bE pass0) (op_own_ne (C := A.Part) ⟨T.m_Part_eq, T.o_Part.ne, T.i_f_Row_eq, T.o_Part.mo⟩ FE (hr.mono (by decide)) bE pass0))) (pe_mkc c_Part hr (by decide) pass0 (pa_cons pe_str (pa_cons pe_str (pa_cons pe_str (pa_cons pe_int (pa_cons pe_int pa_nil)))))) (pe_mkc c_Join hr (by decide) pass0 (pa_cons pe_str (pa_cons pe_str (pa_cons pe_str (pa_cons pe_int pa_nil))))) (nomark _)))))), ?_⟩
    refine ⟨.ref l, rfl, l, is, rfl, hl, fun a b H1 hd1 => ?_⟩
    show tSeq _ _ _ [some (.ref l), some (.ref a), none, none, none, none, none, none, none, none, none, none] H1
    have I : IsDeal (DealR a b) a b := isDeal_R
    refine s_rng (R := DealR a b) (H := H1) (m := 8) (ea_is ev_c ea_nil) ⟨by decide, by decide⟩ (Gr.refl hd1) (fun _ σ' H' => DealJ a b H' ∧ ∃ y2 y3 y4 y5 y6 y7 y8 y9 y10 y11 : Option V, σ' = [some (.ref l), some (.ref a), y2, y3, y4, y5, y6, y7, y8, y9, y10, y11])
      (fun H2 g2 _ => ⟨g2.1, none, none, none, none, none, none, none, none, none, none, rfl⟩) (fun turn σ' H2 _ hP => ?_) (fun σ' H2 hP => ?_)
    · obtain ⟨hd2, y2, y3, y4, y5, y6, y7, y8, y9, y10, y11, rfl⟩ := hP
      show tSeq _ _ _ [some (.ref l), some (.ref a), some (.int (turn : Int)), y3, y4, y5, y6, y7, y8, y9, y10, y11] H2
      -- marks
      refine s_set (R := DealR a b) (H := H2) (ev_names (ev_is rfl) ev_c) (Gr.refl hd2) fun u H3 g3 gv3 hu => ?_
      obtain ⟨ms, ml, mi, pm, rfl, hm3, dm⟩ := hu
      dsimp only
      show tSeq _ _ _ [some (.ref l), some (.ref a), some (.int (turn : Int)), some (.ref pm), y4, y5, y6, y7, y8, y9, y10, y11] H3
      -- four rows
      refine s_set (R := DealR a b) (H := H3) (P := LsOk (DealR a b) (gl 4 (fun _ => true) fun i => (fun (R' : Res) (_ : Nat) (u : V) (H : Hp) => ∃ r : RowD, r.drawn ∧ TupN R' r.tup u H) (DealR a b) i)) (ev_lc (R := DealR a b) (n := 4) (Y := YFn fun i => .int (i : Int)) (Z := fun i x => x = .int (i : Int)) (fun R' _ u H => ∃ r : RowD, r.drawn ∧ TupN R' r.tup u H) (fun _ => true) (ew_range (m := 4) (ea_is ev_c ea_nil) ⟨by decide, by decide⟩) (by decide) yFn_ok (fun x => rfl)
        (fun R' i u H H' g ⟨r, dr, h⟩ => ⟨r, dr, stb_tupN u H H' g h⟩) (fun D i v H' xs _ _ ⟨r, dr, h⟩ => ⟨r, dr, tupN_add h⟩) (fun D hD i x hi z => ⟨et_yes, fun _ => ?_⟩)) (Gr.refl gv3.1.1) fun u H4 g4 gv4 hu => ?_
      · have nD : D ≠ pm := fun e => by rw [e, hm3] at hD; cases hD
        refine ev_any (I.add (I.off gv3.1.1 hD)) ml mi (ev_is rfl) (ev_varLN rfl hm3 ⟨dm.1, fun z => ?_⟩)
        rcases List.mem_cons.mp z with z | z
        · exact nD z.symm
        · exact dm.2 z
      obtain ⟨p4, xs4, rfl, hp4, d4, ps4⟩ := hu
      obtain ⟨rs4, rl4, dr4, ps4⟩ := psOk_ex (φ := RowD.drawn) (S := fun r => TupN (DealR a b) r.tup) ps4
      have rl4 : rs4.length = 4 := rl4
      dsimp only
      show tSeq _ _ _ [some (.ref l), some (.ref a), some (.int (turn : Int)), some (.ref pm), some (.ref p4), y5, y6, y7, y8, y9, y10, y11] H4
      have hm4 : H4 pm = some (.lst (ms.map V.str)) := g4.2 pm _ hm3 dm.1 dm.2
      -- a fifth
      obtain ⟨r0, hr0⟩ : ∃ r0, rs4[0]? = some r0 := ⟨rs4[0], List.getElem?_eq_getElem (by omega)⟩
      obtain ⟨x0, hx0, hx0t⟩ := psOk_get ps4 (show (rs4.map fun r => TupN (DealR a b) r.tup)[0]? = some (TupN (DealR a b) r0.tup) by rw [List.getElem?_map, hr0]; rfl)
      refine ⟨.ref p4, rfl, .inl ⟨rfl, _, .inl (.inl hp4)⟩, ?_⟩
      refine ev_bent (E := E0) ml mi (dr4 r0 (List.mem_of_getElem? hr0)) (ev_is rfl) (ev_item (K := K) (i := 0) rfl hp4 d4 hx0 ev_c stb_tupN hx0t) (ev_varLN rfl hm4 dm) H4 (Gr.refl gv4.1.1) _ fun u5 H5 g5 hu => ?_
      obtain ⟨r5, dr5, hu5⟩ := hu
      have hp5 : H5 p4 = some (.lst xs4) := g5.1.2 p4 _ hp4 d4.1 d4.2
      have xl4 : xs4.length = 4 := by have := psOk_len ps4; rw [List.length_map] at this; omega
      refine ⟨p4, xs4, u5, rfl, rfl, hp5, small1000 (by omega), ?_⟩
      obtain ⟨rs, hrs⟩ : ∃ rs, rs = rs4 ++ [r5] := ⟨_, rfl⟩
      have rl : rs.length = 5 := by rw [hrs, List.length_append, rl4]; rfl
      have dr : ∀ r, r ∈ rs → r.drawn := fun r hr => by
        rw [hrs] at hr
        rcases List.mem_append.mp hr with h | h
        · exact dr4 r h
        · rw [List.mem_singleton.mp h]; exact dr5
      have ps5 : PsOk (rs.map fun r => TupN (DealR a b) r.tup) (xs4 ++ [u5]) H5 := by
        rw [hrs, List.map_append]
        exact psOk_snoc (psOk_stb (fun P hP => by obtain ⟨r, _, rfl⟩ := List.mem_map.mp hP; exact stb_tupN) g5.1 ps4) hu5
      have n4 := deal_off d4
      have hd6 : DealJ a b (upd H5 p4 (.lst (xs4 ++ [u5]))) := by
        obtain ⟨cs, m, q1, q2, q3⟩ := g5.1.1
        exact ⟨cs, m, by rw [upd_ne (Ne.symm n4.1)]; exact q1, by rw [upd_ne (Ne.symm n4.2)]; exact q2, q3⟩
      have ps6 := psOk_tup_upd (o := .lst (xs4 ++ [u5])) hp5 ps5
      have hp6 : (upd H5 p4 (.lst (xs4 ++ [u5]))) p4 = some (.lst (xs4 ++ [u5])) := upd_same
      generalize upd H5 p4 (.lst (xs4 ++ [u5])) = H6 at hd6 ps6 hp6
      generalize xs4 ++ [u5] = xs at ps6 hp6
      clear ps5 hu5 hp5 hx0 hx0t ps4 hp4 hm4 xl4
      have xl : xs.length = rs.length := by have := psOk_len ps6; rw [List.length_map] at this; exact this
      dsimp only
      show tSeq _ _ _ [some (.ref l), some (.ref a), some (.int (turn : Int)), some (.ref pm), some (.ref p4), y5, y6, y7, y8, y9, y10, y11] H6
      have getR : ∀ {i x}, xs[i]? = some x → ∃ r : RowD, rs[i]? = some r ∧ r.drawn ∧ TupN (DealR a b) r.tup x H6 := fun {i x} hx => by
        have hi : i < rs.length := by rw [← xl]; exact (List.getElem?_eq_some_iff.mp hx).1
        refine ⟨rs[i], List.getElem?_eq_getElem hi, dr _ (List.getElem_mem hi), ?_⟩
        obtain ⟨x', hx', h⟩ := psOk_get ps6 (show (rs.map fun r => TupN (DealR a b) r.tup)[i]? = some (TupN (DealR a b) (rs[i]).tup) by rw [List.getElem?_map, List.getElem?_eq_getElem hi]; rfl)
        rw [hx] at hx'
        cases hx'
        exact h
      -- made
      refine s_set (R := DealR a b) (H := H6) (P := LsOk (DealR a b) (gl rs.length (fun _ => true) fun i => RowN A (DealR a b) (rs.getD i rowAny))) ?_ (Gr.refl hd6) fun u H7 g7 gv7 hu => ?_
      · refine ev_lc (R := DealR a b) (n := rs.length) (Y := YAt xs) (Z := fun i x => xs[i]? = some x) (fun R' i => RowN A R' (rs.getD i rowAny)) (fun _ => true) ?_ (by omega) yAt_ok (fun x => rfl) (fun R' i => stb_rowN) (fun D i v H' xs _ _ h => rowN_add h) (fun D hD i x hi z => ⟨et_yes, fun _ => ?_⟩)
        · have hw := ew_list (K := K) (ev_L (ev_varLN (R := DealR a b) (σ := [some (.ref l), some (.ref a), some (.int (turn : Int)), some (.ref pm), some (.ref p4), y5, y6, y7, y8, y9, y10, y11]) (i := 4) rfl hp6 d4))
          rw [xl] at hw
          exact hw
        · obtain ⟨r, hr1, hr2, hr3⟩ := getR z
          have e : rs.getD i rowAny = r := by rw [List.getD_eq_getElem?_getD, hr1]; rfl
          rw [e]
          exact ev_rowOf hr2 (ev_varP rfl stb_tupN (tupN_into hD hr3))
      obtain ⟨p5, ys, rfl, hp7, d5, qs⟩ := hu
      have qs : PsOk (rs.map fun r => RowN A (DealR a b) r) ys H7 := by
        rw [← gl_map rowAny (fun r => RowN A (DealR a b) r) rs]
        exact qs
      have yl : ys.length = rs.length := by have := psOk_len qs; rw [List.length_map] at this; exact this
      have hs7 : H7 p4 = some (.lst xs) := g7.2 p4 _ hp6 d4.1 d4.2
      dsimp only
      show tSeq _ _ _ [some (.ref l), some (.ref a), some (.int (turn : Int)), some (.ref pm), some (.ref p4), some (.ref p5), y6, y7, y8, y9, y10, y11] H7
      have getS : ∀ {i x y}, xs[i]? = some x → ys[i]? = some y → ∃ r : RowD, rs[i]? = some r ∧ r.drawn ∧ TupN (DealR a b) r.tup x H7 ∧ RowN A (DealR a b) r y H7 := fun {i x y} hx hy => by
        obtain ⟨r, h1, h2, h3⟩ := getR hx
        refine ⟨r, h1, h2, stb_tupN x _ _ g7 h3, ?_⟩
        obtain ⟨y', hy', h⟩ := psOk_get qs (show (rs.map fun r => RowN A (DealR a b) r)[i]? = some (RowN A (DealR a b) r) by rw [List.getElem?_map, h1]; rfl)
        rw [hy] at hy'
        cases hy'
        exact h
      -- each by itself
      refine s_for (R := DealR a b) (H := H7) (n := rs.length) (ew_zip (K := K) (xs := xs) (ys := ys) (ea_cons stb_isL (ev_L (ev_varLN (R := DealR a b) rfl hs7 d4)) (ea_cons stb_isL (ev_L (ev_varLN (R := DealR a b) rfl hp7 d5)) ea_nil)) (by rw [xl, yl, Nat.min_self])) (Gr.refl gv7.1.1) fun H8 g8 gv8 =>
        ⟨fun _ σ' H' => Gr (DealR a b) H8 H' ∧ ∃ y6 y7 y8 y9 y10 y11 : Option V, σ' = [some (.ref l), some (.ref a), some (.int (turn : Int)), some (.ref pm), some (.ref p4), some (.ref p5), y6, y7, y8, y9, y10, y11], ⟨Gr.refl g8.1, y6, y7, y8, y9, y10, y11, rfl⟩, fun _ _ _ _ h => h.1, ?_, ?_⟩
      · rintro i v σ' H' H9 hi ⟨g9, z6, z7, z8, z9, z10, z11, rfl⟩ ⟨TT, x, y, rfl, hTn, rfl, hx, hy⟩
        obtain ⟨r, hr1, dr1, hxt, hyr⟩ := getS hx hy
        have g8A : Gr (DealR a b) H8 (upd H' TT (.tup [x, y])) := g9.trans (Gv.new g9.1 hTn)
        refine ⟨TT, [x, y], rfl, .inl (.inl upd_same), rfl, x, [y], rfl, y, [], rfl, rfl, ?_⟩
        have hxt := stb_tupN _ _ _ (g8.tr g8A) hxt
        have hyr := stb_rowN _ _ _ (g8.tr g8A) hyr
        generalize upd H' TT (.tup [x, y]) = HA at g8A hxt hyr
        obtain ⟨ay, rfl, hya⟩ := rowN_at hyr
        have gd := drawn_good dr1
        dsimp only
        show tSeq _ _ _ [some (.ref l), some (.ref a), some (.int (turn : Int)), some (.ref pm), some (.ref p4), some (.ref p5), some x, some (.ref ay), z8, z9, z10, z11] HA
        have e6 : ∀ {HB}, Gr (DealR a b) HA HB → EvP (DealR a b) (tVar 6) [some (.ref l), some (.ref a), some (.int (turn : Int)), some (.ref pm), some (.ref p4), some (.ref p5), some x, some (.ref ay), z8, z9, z10, z11] HB (TupN (DealR a b) r.tup) := fun g => ev_varP rfl stb_tupN (stb_tupN _ _ _ g hxt)
        have e7 : ∀ {HB}, Gr (DealR a b) HA HB → EvP (DealR a b) (tVar 7) [some (.ref l), some (.ref a), some (.int (turn : Int)), some (.ref pm), some (.ref p4), some (.ref p5), some x, some (.ref ay), z8, z9, z10, z11] HB (RowN A (DealR a b) r) := fun g => ev_varP rfl stb_rowN (stb_rowN _ _ _ g hyr)
        refine s_if1 (R := DealR a b) (H := HA) (b := false) (et_is (et_or (et_not (et_B (ev_isi (b := true) (ev_is rfl) ev_c (.own _) (fun H' g => by
            obtain ⟨dx, t, h1, h2⟩ := hya H' g
            exact (row_cls T r).typ ⟨T.ogt, T.otk⟩ h1) (T.o_Row.kit (row_subRow T r))))) fun _ => et_or (et_test (ev_ne rfl (ev_repr dr1 (ev_attr (e7 (Gr.refl g8A.1)))) (ev_repr dr1 (e6 (Gr.refl g8A.1))))) fun _ => et_test (ev_ne rfl (ev_strRow (ev_is rfl) hya gd) (ev_text dr1 (e6 (Gr.refl g8A.1))))) (by simp)) (Gr.refl g8A.1) (fun hb => Bool.noConfusion hb) fun _ HB gB gvB => ?_
        dsimp only
        refine s_if1 (R := DealR a b) (H := HB) (b := false) (et_is (et_test (ev_ne (x := .int (([decide (r.form = "step"), decide (r.form = "join"), decide (r.form = "part")].count true : Nat) : Int)) (y := .int 1) rfl (ev_cntB (bs := [decide (r.form = "step"), decide (r.form = "join"), decide (r.form = "part")]) (ev_lstN (vs := [V.bl (decide (r.form = "step")), V.bl (decide (r.form = "join")), V.bl (decide (r.form = "part"))])
            (ea_is (ev_isRow T (r2 := .step "" "" "" 0) (ev_is rfl) ev_c (Al.gr gB hya)) (ea_is (ev_isRow T (r2 := .join "" "" "" 0) (ev_is rfl) ev_c (Al.gr gB hya)) (ea_is (ev_isRow T (r2 := .part "" "" "" 0 0) (ev_is rfl) ev_c (Al.gr gB hya)) ea_nil))) (by show 3 ≤ 1000; decide)) ev_c) ev_c)) (by rw [form3]; rfl)) (Gr.refl gB.1) (fun hb => Bool.noConfusion hb) fun _ HC gC gvC => ?_
        dsimp only
        have gAC := gB.tr gC
        refine s_if1 (R := DealR a b) (H := HC) (b := false) (et_is (et_or (et_test (ev_eqNot T (g := fun b => b) gd (e7 gAC) (ev_strRow (ev_is rfl) (Al.gr gAC hya) gd) str_ty (T.o_Row.kit T.ssR) (row_nfs T r))) fun _ => et_or (et_test (ev_eqNot T (g := fun b => b) gd (e7 gAC) (e6 gAC) tup_ty (T.o_Row.kit T.stR) (row_nft T r))) fun _ => et_test (ev_eqRow T (g := fun b => !b) gd gd (e7 gAC) (ev_rowOf dr1 (e6 gAC)))) (by simp)) (Gr.refl gC.1) (fun hb => Bool.noConfusion hb) fun _ HD gD gvD => ?_
        exact ⟨g8A.tr (gAC.tr gD), _, _, _, _, _, _, rfl⟩
      · rintro σ' H9 ⟨g9, z6, z7, z8, z9, z10, z11, rfl⟩
        have g79 : Gr (DealR a b) H7 H9 := g8.tr g9
        have hs9 := g79.2 p4 _ hs7 d4.1 d4.2
        have hp9 := g79.2 p5 _ hp7 d5.1 d5.2
        have len4 : ∀ {σ : L2.St} {HB}, σ[4]? = some (some (.ref p4)) → Gr (DealR a b) H9 HB → EvP (DealR a b) (tCB (fun vs H Q => ∃ p ys, vs = [.ref p] ∧ (SqL K H p ys ∨ SqT K H p ys) ∧ Q (.int ys.length) H) (tCons (tVar 4) tNil)) σ HB (Is (.int (xs.length : Int))) := fun hv g => ev_len (ev_imp (ev_varLN (R := DealR a b) hv (g.2 p4 _ hs9 d4.1 d4.2) d4) fun u H' _ ⟨p', e, h, _⟩ => ⟨p', e, .inl (.inl (.inl h))⟩)
        dsimp only
        refine s_rng (R := DealR a b) (H := H9) (m := (xs.length : Int)) (ea_is (len4 rfl (Gr.refl g9.1)) ea_nil) ⟨by omega, by omega⟩ (Gr.refl g9.1) (fun _ σ' H' => Gr (DealR a b) H9 H' ∧ ∃ z6 z7 z8 z9 z10 z11 : Option V, σ' = [some (.ref l), some (.ref a), some (.int (turn : Int)), some (.ref pm), some (.ref p4), some (.ref p5), z6, z7, z8, z9, z10, z11]) (fun H10 g10 _ => ⟨g10, z6, z7, z8, z9, z10, z11, rfl⟩) (fun i σ' H10 hi hP => ?_) (fun σ' H10 hP => ?_)
        · obtain ⟨g10, z6, z7, z8, z9, z10, z11, rfl⟩ := hP
          have hi' : i < xs.length := by omega
          dsimp only
          refine s_rng (R := DealR a b) (H := H10) (σ := [some (.ref l), some (.ref a), some (.int (turn : Int)), some (.ref pm), some (.ref p4), some (.ref p5), z6, z7, some (.int (i : Int)), z9, z10, z11]) (m := (xs.length : Int)) (ea_is (len4 rfl g10) ea_nil) ⟨by omega, by omega⟩ (Gr.refl g10.1) (fun _ σ' H' => Gr (DealR a b) H9 H' ∧ ∃ z6 z7 z9 z10 z11 : Option V, σ' = [some (.ref l), some (.ref a), some (.int (turn : Int)), some (.ref pm), some (.ref p4), some (.ref p5), z6, z7, some (.int (i : Int)), z9, z10, z11]) (fun H11 g11 _ => ⟨g10.tr g11, z6, z7, z9, z10, z11, rfl⟩) (fun j σ' H11 hj hP => ?_) (fun σ' H11 hP => ?_)
          · obtain ⟨g11, z6, z7, z9, z10, z11, rfl⟩ := hP
            have hj' : j < xs.length := by omega
            have hxi := List.getElem?_eq_getElem hi'
            have hxj := List.getElem?_eq_getElem hj'
            have hyi := List.getElem?_eq_getElem (show i < ys.length by omega)
            have hyj := List.getElem?_eq_getElem (show j < ys.length by omega)
            obtain ⟨r, hr1, dr1, hxt, hyr⟩ := getS hxi hyi
            obtain ⟨r2, hr2, dr2, hxt2, hyr2⟩ := getS hxj hyj
            have g7B : Gr (DealR a b) H7 H11 := g79.tr g11
            have hsB := g11.2 p4 _ hs9 d4.1 d4.2
            have hpB := g11.2 p5 _ hp9 d5.1 d5.2
            dsimp only
            refine s_set (R := DealR a b) (H := H11) (σ := [some (.ref l), some (.ref a), some (.int (turn : Int)), some (.ref pm), some (.ref p4), some (.ref p5), z6, z7, some (.int (i : Int)), some (.int (j : Int)), z10, z11]) (P := Is (.bl (decide (r.text = r2.text)))) ?_ (Gr.refl g11.1) fun u H12 g12 gv12 e => ?_
            · rw [← eqv_dat dr1 dr2]
              exact ev_eqD (dat_shaped dr1) (dat_shaped dr2) (ev_dat (ev_item (K := K) rfl hsB d4 hxi (ev_is rfl) stb_tupN (stb_tupN _ _ _ g7B hxt))) (ev_dat (ev_item (K := K) rfl hsB d4 hxj (ev_is rfl) stb_tupN (stb_tupN _ _ _ g7B hxt2)))
            cases e
            dsimp only
            have m1 : ∀ {k : Bool → Bool} , EvP (DealR a b) (tOp (rEqRow A K E0 k) (tOp (rIxL K) (tVar 5) (tVar 8)) (tOp (rIxL K) (tVar 5) (tVar 9))) [some (.ref l), some (.ref a), some (.int (turn : Int)), some (.ref pm), some (.ref p4), some (.ref p5), z6, z7, some (.int (i : Int)), some (.int (j : Int)), some (.bl (decide (r.text = r2.text))), z11] H11 (Is (.bl (k (decide (r.text = r2.text))))) := fun {k} =>
              ev_eqRow T (g := k) (drawn_good dr1) (drawn_good dr2) (ev_item (K := K) rfl hpB d5 hyi (ev_is rfl) stb_rowN (stb_rowN _ _ _ g7B hyr)) (ev_item (K := K) rfl hpB d5 hyj (ev_is rfl) stb_rowN (stb_rowN _ _ _ g7B hyr2))
            refine s_if1 (R := DealR a b) (H := H11) (b := false) (et_is (et_or (et_test (ev_ne rfl (m1 (k := fun b => b)) (ev_is rfl))) fun _ => et_test (ev_eq rfl (m1 (k := fun b => !b)) (ev_is rfl))) (by cases decide (r.text = r2.text) <;> decide)) g12 (fun hb => Bool.noConfusion hb) fun _ H13 g13 _ => ?_
            exact ⟨g11.tr g13, _, _, _, _, _, rfl⟩
          · obtain ⟨g11, z6, z7, z9, z10, z11, rfl⟩ := hP
            exact ⟨g11, _, _, _, _, _, _, rfl⟩
        · obtain ⟨g10, z6, z7, z8, z9, z10, z11, rfl⟩ := hP
          exact ⟨g10.1, _, _, _, _, _, _, _, _, _, _, rfl⟩
    · obtain ⟨hd2, y2, y3, y4, y5, y6, y7, y8, y9, y10, y11, rfl⟩ := hP
      dsimp only
      refine s_ret (R := DealR a b) (H := H2) (P := Is (.bl (!decide (rowAny.text = rowAll.text)))) ?_ (Gr.refl hd2) fun u H3 g3 _ e => ?_
      · exact ev_eqRow T (g := fun b => !b) any_good all_good (ev_imp (ev_mkPart any_good (ea_is ev_c (ea_is ev_c (ea_is ev_c (ea_is ev_c (ea_is ev_c ea_nil)))))) fun u H' _ h => rowW_N h) (ev_imp (ev_mkJoin all_good (ea_is ev_c (ea_is ev_c (ea_is ev_c (ea_is ev_c ea_nil))))) fun u H' _ h => rowW_N h)
      · cases e
        rw [decide_eq_false any_all]
        exact q H3
end
section
variable {P : Program} {w : World} {A : Ads} {K : PySem.W.Frag} {mg : Str → Option Value}
theorem mk_of {C f : Addr} (c : OwnC K C) (m : PySem.W.findIn K (.ref C) "__init__" = some (some (.ref f))) (i : PySem.W.isFn K (.ref f) = true) : Mk K C f := ⟨c.ma, m, i, c.kp⟩
theorem binds_all {x qual : Str} {st : Stmt} {f : Addr} {fd : FuncData} {ps : List Str} (F : Fun K x qual st f fd)
    (b : ∀ (kV doc pm : Value) (an : Option Addr) (cdv ct : Value) (us : List Value), us.length = ps.length → bindArgs (PySem.W.fnOf x qual (defArgs st) (defBody st) (defScope st) .none kV doc pm an cdv ct) ⟨us, []⟩ = pure (ps.zip us)) (s : Shared) (us : List Value) (hl : us.length = ps.length) : BindsTo s fd ⟨us, []⟩ (ps.zip us) := by
  obtain ⟨_, _, kV, doc, pm, an, cdv, ct, _, rfl, _, _⟩ := F.ex
  intro M A E Q q
  rw [b kV doc pm an cdv ct us hl]
  exact wpAny_pure q
theorem whole (T : Tx A K mg) : ∃ fd : FuncData, (∀ (s : Shared) (u : Value), BindsTo s fd ⟨[u], []⟩ [("_law_script", u)]) ∧ ∀ base : Heap, FnG P w K mg base CX0 8 A.f_law fd ["_law_script"] (spLaw K) := by
  obtain ⟨_, fd, F⟩ := T.d_law
  refine ⟨fd, fun s u => binds_all (ps := ["_law_script"]) F (fun _ _ _ _ _ _ us h => by match us, h with | [u0], _ => rfl) s [u] rfl, fun base => ?_⟩
  · skip
    have c_is_integer : CalX P w K mg base CX0 1 "is_integer" spIsInt := cal_of T.d_is_integer (fun _ F => ok_is_integer T F) (fun _ _ _ _ _ _ us h => by match us, h with | [u0], _ => rfl)
    have c_is_name : CalX P w K mg base CX0 1 "is_name" spIsName := cal_of T.d_is_name (fun _ F => ok_is_name T F) (fun _ _ _ _ _ _ us h => by match us, h with | [u0], _ => rfl)
    have c_is_mark_or : CalX P w K mg base CX0 2 "_is_mark_or" (spMarkOr K) := cal_of T.d_is_mark_or (fun _ F => ok_mark_or T c_is_name F) (fun _ _ _ _ _ _ us h => by match us, h with | [u0, u1], _ => rfl)
    have c_is_added : CalX P w K mg base CX0 2 "_is_added" spAdded := cal_of T.d_is_added (fun _ F => ok_added T c_is_integer F) (fun _ _ _ _ _ _ us h => by match us, h with | [u0], _ => rfl)
    have c_refuse_wrong : CalX P w K mg base CX0 1 "_refuse_wrong" (spRefuse0 K) := cal_of T.d_refuse_wrong (fun _ F => ok_refuse0 T F) (fun _ _ _ _ _ _ us h => by match us, h with | [u0], _ => rfl)
    obtain ⟨fdR, Fr⟩ := T.d_Row_init
    have FR := ok_row_init (P := P) (w := w) (base := base) T Fr
    have bR : Binds K fdR ["self", "words"] [] := Fr.binds (fun _ _ _ _ _ _ us h => by match us, h with | [u0, u1], _ => rfl)
    have c_Step : MakX P w K mg base CX0 3 "Step" A.Step (spStep0 A) := mak_of T.g_Step (mk_of T.o_Step T.m_Step_init T.i_f_Step_init) T.d_Step_init (fun _ F => ok_step0 (fR := A.f_Row_init) T c_refuse_wrong c_is_mark_or c_is_added FR bR F) (fun _ _ _ _ _ _ us h => by match us, h with | [u0, u1, u2, u3, u4], _ => rfl)
    have c_Join : MakX P w K mg base CX0 3 "Join" A.Join (spJoin0 A) := mak_of T.g_Join (mk_of T.o_Join T.m_Join_init T.i_f_Join_init) T.d_Join_init (fun _ F => ok_join0 (fR := A.f_Row_init) T c_refuse_wrong c_is_mark_or c_is_added FR bR F) (fun _ _ _ _ _ _ us h => by match us, h with | [u0, u1, u2, u3, u4], _ => rfl)
    have c_Part : MakX P w K mg base CX0 3 "Part" A.Part (spPart0 A) := mak_of T.g_Part (mk_of T.o_Part T.m_Part_init T.i_f_Part_init) T.d_Part_init (fun _ F => ok_part0 (fR := A.f_Row_init) T c_refuse_wrong c_is_mark_or c_is_added FR bR F) (fun _ _ _ _ _ _ us h => by match us, h with | [u0, u1, u2, u3, u4, u5], _ => rfl)
    obtain ⟨fdS, Fs⟩ := T.d_Row_str
    have FS := ok_row_str (P := P) (w := w) (base := base) T Fs
    have bS : Binds K fdS ["self"] [] := Fs.binds (fun _ _ _ _ _ _ us h => by match us, h with | [u0], _ => rfl)
    obtain ⟨fdE, Fe⟩ := T.d_Row_eq
    have FE := ok_row_eq (fS := A.f_Row_str) (P := P) (w := w) (base := base) T FS bS Fe
    have bE : Binds K fdE ["self", "other"] [] := Fe.binds (fun _ _ _ _ _ _ us h => by match us, h with | [u0, u1], _ => rfl)
    have c_law_draw : CalX P w K mg base CX0 1 "_law_draw" spDraw := cal_of T.d_law_draw (fun _ F => ok_draw T F) (fun _ _ _ _ _ _ us h => by match us, h with | [u0, u1], _ => rfl)
    have c_law_deal : CalX P w K mg base CX0 1 "_law_deal" (spDeal K) := cal_of T.d_law_deal (fun _ F => ok_deal T F) (fun _ _ _ _ _ _ us h => by match us, h with | [u0, u1], _ => rfl)
    have c_law_pick : CalX P w K mg base CX0 2 "_law_pick" spPick := cal_of T.d_law_pick (fun _ F => ok_pick T c_law_draw F) (fun _ _ _ _ _ _ us h => by match us, h with | [u0, u1], _ => rfl)
    have c_law_mixed : CalX P w K mg base CX0 2 "_law_mixed" spMixed := cal_of T.d_law_mixed (fun _ F => ok_mixed T c_law_draw F) (fun _ _ _ _ _ _ us h => by match us, h with | [u0, u1], _ => rfl)
    have c_law_names : CalX P w K mg base CX0 3 "_law_names" spNames := cal_of T.d_law_names (fun _ F => ok_names T c_law_mixed F) (fun _ _ _ _ _ _ us h => by match us, h with | [u0, u1], _ => rfl)
    have c_law_kinds : CalX P w K mg base CX0 1 "_law_kinds" spKinds := cal_of T.d_law_kinds (fun _ F => ok_kinds T F) (fun _ _ _ _ _ _ us h => by match us, h with | [], _ => rfl)
    have c_law_any_row : CalX P w K mg base CX0 3 "_law_any_row" spAny := cal_of T.d_law_any_row (fun _ F => ok_any T c_law_draw c_law_pick c_law_kinds F) (fun _ _ _ _ _ _ us h => by match us, h with | [u0, u1], _ => rfl)
    have c_law_bent : CalX P w K mg base CX0 3 "_law_bent" spBent := cal_of T.d_law_bent (fun _ F => ok_bent T c_law_draw c_law_pick c_law_kinds F) (fun _ _ _ _ _ _ us h => by match us, h with | [u0, u1, u2], _ => rfl)
    have c_law_row_text : CalX P w K mg base CX0 1 "_law_row_text" spText := cal_of T.d_law_row_text (fun _ F => ok_text2 T F) (fun _ _ _ _ _ _ us h => by match us, h with | [u0], _ => rfl)
    have c_law_row_of : CalX P w K mg base CX0 5 "_law_row_of" (spRowOf A) := cal_of T.d_law_row_of (fun _ F => ok_row_of T c_Step c_Join c_Part F) (fun _ _ _ _ _ _ us h => by match us, h with | [u0], _ => rfl)
    have c_law_attributes : CalX P w K mg base CX0 1 "_law_attributes" (spAttr A) := cal_of T.d_law_attributes (fun _ F => ok_attr T F) (fun _ _ _ _ _ _ us h => by match us, h with | [u0], _ => rfl)
    exact ok_law T c_law_deal c_law_names c_law_any_row c_law_bent c_law_row_of c_law_row_text c_law_attributes c_Join c_Part FS bS FE bE F
end
theorem gather {K : PySem.W.Frag} {h : Heap} {mg : Str → Option Value} (X : K.In h) (G : h.Ns mainGlobals mg) {f_is_integer f_is_name f_refuse_wrong f_is_mark_or f_is_added Row Step Join Part f_Step_init f_Join_init f_Part_init f_Row_eq f_Row_str f_Row_init KEYWORDS KINDS f_law_deal f_law_draw f_law_pick f_law_mixed f_law_names f_law_kinds f_law_any_row f_law_bent f_law_row_text f_law_row_of f_law_attributes f_law : Addr}
    {oc1 kV1 dc1 pm1 cd1 ct1 : Value} {od1 an1 : Option Addr} {sl1 : Array (Option Value)}
    {oc2 kV2 dc2 pm2 cd2 ct2 : Value} {od2 an2 : Option Addr} {sl2 : Array (Option Value)}
    {oc3 kV3 dc3 pm3 cd3 ct3 : Value} {od3 an3 : Option Addr} {sl3 : Array (Option Value)}
    {oc4 kV4 dc4 pm4 cd4 ct4 : Value} {od4 an4 : Option Addr} {sl4 : Array (Option Value)}
    {oc5 kV5 dc5 pm5 cd5 ct5 : Value} {od5 an5 : Option Addr} {sl5 : Array (Option Value)}
    {oc6 kV6 dc6 pm6 cd6 ct6 : Value} {od6 an6 : Option Addr} {sl6 : Array (Option Value)}
    {oc7 kV7 dc7 pm7 cd7 ct7 : Value} {od7 an7 : Option Addr} {sl7 : Array (Option Value)}
    {oc8 kV8 dc8 pm8 cd8 ct8 : Value} {od8 an8 : Option Addr} {sl8 : Array (Option Value)}
    {oc9 kV9 dc9 pm9 cd9 ct9 : Value} {od9 an9 : Option Addr} {sl9 : Array (Option Value)}
    {oc10 kV10 dc10 pm10 cd10 ct10 : Value} {od10 an10 : Option Addr} {sl10 : Array (Option Value)}
    {oc11 kV11 dc11 pm11 cd11 ct11 : Value} {od11 an11 : Option Addr} {sl11 : Array (Option Value)}
    {oTKEYWORDS : Obj} {iTKEYWORDS : Array Value} {nTKEYWORDS : Nat}
    {oTKINDS : Obj} {iTKINDS : Array Value} {nTKINDS : Nat}
    {oc12 kV12 dc12 pm12 cd12 ct12 : Value} {od12 an12 : Option Addr} {sl12 : Array (Option Value)}
    {oc13 kV13 dc13 pm13 cd13 ct13 : Value} {od13 an13 : Option Addr} {sl13 : Array (Option Value)}
    {oc14 kV14 dc14 pm14 cd14 ct14 : Value} {od14 an14 : Option Addr} {sl14 : Array (Option Value)}
    {oc15 kV15 dc15 pm15 cd15 ct15 : Value} {od15 an15 : Option Addr} {sl15 : Array (Option Value)}
    {oc16 kV16 dc16 pm16 cd16 ct16 : Value} {od16 an16 : Option Addr} {sl16 : Array (Option Value)}
    {oc17 kV17 dc17 pm17 cd17 ct17 : Value} {od17 an17 : Option Addr} {sl17 : Array (Option Value)}
    {oc18 kV18 dc18 pm18 cd18 ct18 : Value} {od18 an18 : Option Addr} {sl18 : Array (Option Value)}
    {oc19 kV19 dc19 pm19 cd19 ct19 : Value} {od19 an19 : Option Addr} {sl19 : Array (Option Value)}
    {oc20 kV20 dc20 pm20 cd20 ct20 : Value} {od20 an20 : Option Addr} {sl20 : Array (Option Value)}
    {oc21 kV21 dc21 pm21 cd21 ct21 : Value} {od21 an21 : Option Addr} {sl21 : Array (Option Value)}
    {oc22 kV22 dc22 pm22 cd22 ct22 : Value} {od22 an22 : Option Addr} {sl22 : Array (Option Value)}
    {oc23 kV23 dc23 pm23 cd23 ct23 : Value} {od23 an23 : Option Addr} {sl23 : Array (Option Value)}
    (z_isinstance : PySem.W.nsIn K mainGlobals "isinstance" = some none)
    (z_int : PySem.W.nsIn K mainGlobals "int" = some none)
    (z_bool : PySem.W.nsIn K mainGlobals "bool" = some none)
    (z_str : PySem.W.nsIn K mainGlobals "str" = some none)
    (z_len : PySem.W.nsIn K mainGlobals "len" = some none)
    (z_all : PySem.W.nsIn K mainGlobals "all" = some none)
    (z_tuple : PySem.W.nsIn K mainGlobals "tuple" = some none)
    (z_range : PySem.W.nsIn K mainGlobals "range" = some none)
    (z_zip : PySem.W.nsIn K mainGlobals "zip" = some none)
    (z_list : PySem.W.nsIn K mainGlobals "list" = some none)
    (z_abs : PySem.W.nsIn K mainGlobals "abs" = some none)
    (z_repr : PySem.W.nsIn K mainGlobals "repr" = some none)
    (g_is_integer : PySem.W.nsIn K mainGlobals "is_integer" = some (some (.ref f_is_integer)))
    (l1 : K.lookup f_is_integer = some ⟨oc1, od1, .func (PySem.W.fnOf "is_integer" "is_integer" (defArgs s_is_integer) (defBody s_is_integer) (defScope s_is_integer) .none kV1 dc1 pm1 an1 cd1 ct1), sl1⟩)
    (c1 : PySem.W.codeIn K cd1 "is_integer" = true)
    (k1 : PySem.W.keepIn K (.ref f_is_integer) = true)
    (g_is_name : PySem.W.nsIn K mainGlobals "is_name" = some (some (.ref f_is_name)))
    (l2 : K.lookup f_is_name = some ⟨oc2, od2, .func (PySem.W.fnOf "is_name" "is_name" (defArgs s_is_name) (defBody s_is_name) (defScope s_is_name) .none kV2 dc2 pm2 an2 cd2 ct2), sl2⟩)
    (c2 : PySem.W.codeIn K cd2 "is_name" = true)
    (k2 : PySem.W.keepIn K (.ref f_is_name) = true)
    (g_refuse_wrong : PySem.W.nsIn K mainGlobals "_refuse_wrong" = some (some (.ref f_refuse_wrong)))
    (l3 : K.lookup f_refuse_wrong = some ⟨oc3, od3, .func (PySem.W.fnOf "_refuse_wrong" "_refuse_wrong" (defArgs s_refuse_wrong) (defBody s_refuse_wrong) (defScope s_refuse_wrong) .none kV3 dc3 pm3 an3 cd3 ct3), sl3⟩)
    (c3 : PySem.W.codeIn K cd3 "_refuse_wrong" = true)
    (k3 : PySem.W.keepIn K (.ref f_refuse_wrong) = true)
    (g_is_mark_or : PySem.W.nsIn K mainGlobals "_is_mark_or" = some (some (.ref f_is_mark_or)))
    (l4 : K.lookup f_is_mark_or = some ⟨oc4, od4, .func (PySem.W.fnOf "_is_mark_or" "_is_mark_or" (defArgs s_is_mark_or) (defBody s_is_mark_or) (defScope s_is_mark_or) .none kV4 dc4 pm4 an4 cd4 ct4), sl4⟩)
    (c4 : PySem.W.codeIn K cd4 "_is_mark_or" = true)
    (k4 : PySem.W.keepIn K (.ref f_is_mark_or) = true)
    (g_is_added : PySem.W.nsIn K mainGlobals "_is_added" = some (some (.ref f_is_added)))
    (l5 : K.lookup f_is_added = some ⟨oc5, od5, .func (PySem.W.fnOf "_is_added" "_is_added" (defArgs s_is_added) (defBody s_is_added) (defScope s_is_added) .none kV5 dc5 pm5 an5 cd5 ct5), sl5⟩)
    (c5 : PySem.W.codeIn K cd5 "_is_added" = true)
    (k5 : PySem.W.keepIn K (.ref f_is_added) = true)
    (g_Row : PySem.W.nsIn K mainGlobals "Row" = some (some (.ref Row)))
    (g_Step : PySem.W.nsIn K mainGlobals "Step" = some (some (.ref Step)))
    (g_Join : PySem.W.nsIn K mainGlobals "Join" = some (some (.ref Join)))
    (g_Part : PySem.W.nsIn K mainGlobals "Part" = some (some (.ref Part)))
    (m_Step_init : PySem.W.findIn K (.ref Step) "__init__" = some (some (.ref f_Step_init)))
    (n_f_Step_init : PySem.W.isFn K (.ref f_Step_init) = true)
    (l6 : K.lookup f_Step_init = some ⟨oc6, od6, .func (PySem.W.fnOf "__init__" "Step.__init__" (defArgs s_Step_init) (defBody s_Step_init) (defScope s_Step_init) .none kV6 dc6 pm6 an6 cd6 ct6), sl6⟩)
    (c6 : PySem.W.codeIn K cd6 "Step.__init__" = true)
    (k6 : PySem.W.keepIn K (.ref f_Step_init) = true)
    (m_Join_init : PySem.W.findIn K (.ref Join) "__init__" = some (some (.ref f_Join_init)))
    (n_f_Join_init : PySem.W.isFn K (.ref f_Join_init) = true)
    (l7 : K.lookup f_Join_init = some ⟨oc7, od7, .func (PySem.W.fnOf "__init__" "Join.__init__" (defArgs s_Join_init) (defBody s_Join_init) (defScope s_Join_init) .none kV7 dc7 pm7 an7 cd7 ct7), sl7⟩)
    (c7 : PySem.W.codeIn K cd7 "Join.__init__" = true)
    (k7 : PySem.W.keepIn K (.ref f_Join_init) = true)
    (m_Part_init : PySem.W.findIn K (.ref Part) "__init__" = some (some (.ref f_Part_init)))
    (n_f_Part_init : PySem.W.isFn K (.ref f_Part_init) = true)
    (l8 : K.lookup f_Part_init = some ⟨oc8, od8, .func (PySem.W.fnOf "__init__" "Part.__init__" (defArgs s_Part_init) (defBody s_Part_init) (defScope s_Part_init) .none kV8 dc8 pm8 an8 cd8 ct8), sl8⟩)
    (c8 : PySem.W.codeIn K cd8 "Part.__init__" = true)
    (k8 : PySem.W.keepIn K (.ref f_Part_init) = true)
    (m_Step_eq : PySem.W.findIn K (.ref Step) "__eq__" = some (some (.ref f_Row_eq)))
    (n_f_Row_eq : PySem.W.isFn K (.ref f_Row_eq) = true)
    (l9 : K.lookup f_Row_eq = some ⟨oc9, od9, .func (PySem.W.fnOf "__eq__" "Row.__eq__" (defArgs s_Row_eq) (defBody s_Row_eq) (defScope s_Row_eq) .none kV9 dc9 pm9 an9 cd9 ct9), sl9⟩)
    (c9 : PySem.W.codeIn K cd9 "Row.__eq__" = true)
    (k9 : PySem.W.keepIn K (.ref f_Row_eq) = true)
    (m_Join_eq : PySem.W.findIn K (.ref Join) "__eq__" = some (some (.ref f_Row_eq)))
    (m_Part_eq : PySem.W.findIn K (.ref Part) "__eq__" = some (some (.ref f_Row_eq)))
    (m_Step_str : PySem.W.findIn K (.ref Step) "__str__" = some (some (.ref f_Row_str)))
    (n_f_Row_str : PySem.W.isFn K (.ref f_Row_str) = true)
    (l10 : K.lookup f_Row_str = some ⟨oc10, od10, .func (PySem.W.fnOf "__str__" "Row.__str__" (defArgs s_Row_str) (defBody s_Row_str) (defScope s_Row_str) .none kV10 dc10 pm10 an10 cd10 ct10), sl10⟩)
    (c10 : PySem.W.codeIn K cd10 "Row.__str__" = true)
    (k10 : PySem.W.keepIn K (.ref f_Row_str) = true)
    (m_Join_str : PySem.W.findIn K (.ref Join) "__str__" = some (some (.ref f_Row_str)))
    (m_Part_str : PySem.W.findIn K (.ref Part) "__str__" = some (some (.ref f_Row_str)))
    (m_Row_init : PySem.W.findIn K (.ref Row) "__init__" = some (some (.ref f_Row_init)))
    (n_f_Row_init : PySem.W.isFn K (.ref f_Row_init) = true)
    (l11 : K.lookup f_Row_init = some ⟨oc11, od11, .func (PySem.W.fnOf "__init__" "Row.__init__" (defArgs s_Row_init) (defBody s_Row_init) (defScope s_Row_init) .none kV11 dc11 pm11 an11 cd11 ct11), sl11⟩)
    (c11 : PySem.W.codeIn K cd11 "Row.__init__" = true)
    (k11 : PySem.W.keepIn K (.ref f_Row_init) = true)
    (g_KEYWORDS : PySem.W.nsIn K mainGlobals "KEYWORDS" = some (some (.ref KEYWORDS)))
    (lTKEYWORDS : K.lookup KEYWORDS = some oTKEYWORDS)
    (cTKEYWORDS : oTKEYWORDS.cls = .type "tuple")
    (dTKEYWORDS : oTKEYWORDS.data = .seq iTKEYWORDS nTKEYWORDS)
    (vTKEYWORDS : Vals [.str "any", .str "by", .str "one", .str "same", .str "to"] iTKEYWORDS.toList)
    (g_KINDS : PySem.W.nsIn K mainGlobals "KINDS" = some (some (.ref KINDS)))
    (lTKINDS : K.lookup KINDS = some oTKINDS)
    (cTKINDS : oTKINDS.cls = .type "tuple")
    (dTKINDS : oTKINDS.data = .seq iTKINDS nTKINDS)
    (vTKINDS : Vals [.str "yes", .str "no", .str "late yes", .str "late no", .str "word", .str "strike", .str "back", .str "cut"] iTKINDS.toList)
    (opg_Row : PySem.W.plainGet K Row Str.empty = true)
    (ohd_Row : PySem.W.hasDictIn K Row = true)
    (opo_Row : PySem.W.plainOver K Row = true)
    (osa_Row : PySem.W.findIn K (.ref Row) "__setattr__" = some (some (.builtin "object.__setattr__")))
    (oma_Row : PySem.W.makesIn K Row = true)
    (okp_Row : PySem.W.keepIn K (.ref Row) = true)
    (oha_Row : PySem.W.findIn K (.ref Row) "__class__" = some (some (.builtin "object.__class__")))
    (one_Row : PySem.W.findIn K (.ref Row) "__ne__" = some (some (.builtin "object.__ne__")))
    (omo_Row : PySem.W.mroIn K Row (.type "object") = some true)
    (oic_Row : PySem.W.isClsIn K Row = true)
    (oty_Row : PySem.W.typeIn K (.ref Row) = some (.type "type"))
    (ome_Row : PySem.W.subIn K (.ref Row) (.ref Row) = some true)
    (opg_Step : PySem.W.plainGet K Step Str.empty = true)
    (ohd_Step : PySem.W.hasDictIn K Step = true)
    (opo_Step : PySem.W.plainOver K Step = true)
    (osa_Step : PySem.W.findIn K (.ref Step) "__setattr__" = some (some (.builtin "object.__setattr__")))
    (oma_Step : PySem.W.makesIn K Step = true)
    (okp_Step : PySem.W.keepIn K (.ref Step) = true)
    (oha_Step : PySem.W.findIn K (.ref Step) "__class__" = some (some (.builtin "object.__class__")))
    (one_Step : PySem.W.findIn K (.ref Step) "__ne__" = some (some (.builtin "object.__ne__")))
    (omo_Step : PySem.W.mroIn K Step (.type "object") = some true)
    (oic_Step : PySem.W.isClsIn K Step = true)
    (oty_Step : PySem.W.typeIn K (.ref Step) = some (.type "type"))
    (ome_Step : PySem.W.subIn K (.ref Step) (.ref Step) = some true)
    (opg_Join : PySem.W.plainGet K Join Str.empty = true)
    (ohd_Join : PySem.W.hasDictIn K Join = true)
    (opo_Join : PySem.W.plainOver K Join = true)
    (osa_Join : PySem.W.findIn K (.ref Join) "__setattr__" = some (some (.builtin "object.__setattr__")))
    (oma_Join : PySem.W.makesIn K Join = true)
    (okp_Join : PySem.W.keepIn K (.ref Join) = true)
    (oha_Join : PySem.W.findIn K (.ref Join) "__class__" = some (some (.builtin "object.__class__")))
    (one_Join : PySem.W.findIn K (.ref Join) "__ne__" = some (some (.builtin "object.__ne__")))
    (omo_Join : PySem.W.mroIn K Join (.type "object") = some true)
    (oic_Join : PySem.W.isClsIn K Join = true)
    (oty_Join : PySem.W.typeIn K (.ref Join) = some (.type "type"))
    (ome_Join : PySem.W.subIn K (.ref Join) (.ref Join) = some true)
    (opg_Part : PySem.W.plainGet K Part Str.empty = true)
    (ohd_Part : PySem.W.hasDictIn K Part = true)
    (opo_Part : PySem.W.plainOver K Part = true)
    (osa_Part : PySem.W.findIn K (.ref Part) "__setattr__" = some (some (.builtin "object.__setattr__")))
    (oma_Part : PySem.W.makesIn K Part = true)
    (okp_Part : PySem.W.keepIn K (.ref Part) = true)
    (oha_Part : PySem.W.findIn K (.ref Part) "__class__" = some (some (.builtin "object.__class__")))
    (one_Part : PySem.W.findIn K (.ref Part) "__ne__" = some (some (.builtin "object.__ne__")))
    (omo_Part : PySem.W.mroIn K Part (.type "object") = some true)
    (oic_Part : PySem.W.isClsIn K Part = true)
    (oty_Part : PySem.W.typeIn K (.ref Part) = some (.type "type"))
    (ome_Part : PySem.W.subIn K (.ref Part) (.ref Part) = some true)
    (h_rowOff : PySem.W.findCls K (.ref Row) (.type "type") "__init__" = some (.val (.ref f_Row_init)))
    (h_rowRd : PySem.W.readsIn K Row (.type "type") = true)
    (h_rowGa : PySem.W.specialIn K (.ref Row) "__getattribute__" = some (some (.builtin "type.__getattribute__")))
    (h_rowKeep : PySem.W.keepIn K (.ref f_Row_init) = true)
    (h_ogt : PySem.W.specialIn K (.builtin "object.__class__") "__get__" = some (some (.builtin "getset_descriptor.__get__")))
    (h_otk : PySem.W.takesIn K (.builtin "object.__class__") = some true)
    (h_sSR : PySem.W.subIn K (.ref Step) (.ref Row) = some true)
    (h_sJR : PySem.W.subIn K (.ref Join) (.ref Row) = some true)
    (h_sPR : PySem.W.subIn K (.ref Part) (.ref Row) = some true)
    (h_sSJ : PySem.W.subIn K (.ref Step) (.ref Join) = some false)
    (h_sSP : PySem.W.subIn K (.ref Step) (.ref Part) = some false)
    (h_sJS : PySem.W.subIn K (.ref Join) (.ref Step) = some false)
    (h_sJP : PySem.W.subIn K (.ref Join) (.ref Part) = some false)
    (h_sPS : PySem.W.subIn K (.ref Part) (.ref Step) = some false)
    (h_sPJ : PySem.W.subIn K (.ref Part) (.ref Join) = some false)
    (h_ssR : PySem.W.subIn K (.type "str") (.ref Row) = some false)
    (h_ssS : PySem.W.subIn K (.type "str") (.ref Step) = some false)
    (h_ssJ : PySem.W.subIn K (.type "str") (.ref Join) = some false)
    (h_ssP : PySem.W.subIn K (.type "str") (.ref Part) = some false)
    (h_stR : PySem.W.subIn K (.type "tuple") (.ref Row) = some false)
    (h_stS : PySem.W.subIn K (.type "tuple") (.ref Step) = some false)
    (h_stJ : PySem.W.subIn K (.type "tuple") (.ref Join) = some false)
    (h_stP : PySem.W.subIn K (.type "tuple") (.ref Part) = some false)
    (na_Step_words : PySem.W.findIn K (.ref Step) "words" = some none)
    (na_Step_kind : PySem.W.findIn K (.ref Step) "kind" = some none)
    (na_Step_old : PySem.W.findIn K (.ref Step) "old" = some none)
    (na_Step_then : PySem.W.findIn K (.ref Step) "then" = some none)
    (na_Step_add : PySem.W.findIn K (.ref Step) "add" = some none)
    (na_Join_words : PySem.W.findIn K (.ref Join) "words" = some none)
    (na_Join_here : PySem.W.findIn K (.ref Join) "here" = some none)
    (na_Join_there : PySem.W.findIn K (.ref Join) "there" = some none)
    (na_Join_then : PySem.W.findIn K (.ref Join) "then" = some none)
    (na_Join_add : PySem.W.findIn K (.ref Join) "add" = some none)
    (na_Part_words : PySem.W.findIn K (.ref Part) "words" = some none)
    (na_Part_old : PySem.W.findIn K (.ref Part) "old" = some none)
    (na_Part_left : PySem.W.findIn K (.ref Part) "left" = some none)
    (na_Part_right : PySem.W.findIn K (.ref Part) "right" = some none)
    (na_Part_add : PySem.W.findIn K (.ref Part) "add" = some none)
    (na_Part_more : PySem.W.findIn K (.ref Part) "more" = some none)
    (g_law_deal : PySem.W.nsIn K mainGlobals "_law_deal" = some (some (.ref f_law_deal)))
    (l12 : K.lookup f_law_deal = some ⟨oc12, od12, .func (PySem.W.fnOf "_law_deal" "_law_deal" (defArgs s_law_deal) (defBody s_law_deal) (defScope s_law_deal) .none kV12 dc12 pm12 an12 cd12 ct12), sl12⟩)
    (c12 : PySem.W.codeIn K cd12 "_law_deal" = true)
    (k12 : PySem.W.keepIn K (.ref f_law_deal) = true)
    (g_law_draw : PySem.W.nsIn K mainGlobals "_law_draw" = some (some (.ref f_law_draw)))
    (l13 : K.lookup f_law_draw = some ⟨oc13, od13, .func (PySem.W.fnOf "_law_draw" "_law_draw" (defArgs s_law_draw) (defBody s_law_draw) (defScope s_law_draw) .none kV13 dc13 pm13 an13 cd13 ct13), sl13⟩)
    (c13 : PySem.W.codeIn K cd13 "_law_draw" = true)
    (k13 : PySem.W.keepIn K (.ref f_law_draw) = true)
    (g_law_pick : PySem.W.nsIn K mainGlobals "_law_pick" = some (some (.ref f_law_pick)))
    (l14 : K.lookup f_law_pick = some ⟨oc14, od14, .func (PySem.W.fnOf "_law_pick" "_law_pick" (defArgs s_law_pick) (defBody s_law_pick) (defScope s_law_pick) .none kV14 dc14 pm14 an14 cd14 ct14), sl14⟩)
    (c14 : PySem.W.codeIn K cd14 "_law_pick" = true)
    (k14 : PySem.W.keepIn K (.ref f_law_pick) = true)
    (g_law_mixed : PySem.W.nsIn K mainGlobals "_law_mixed" = some (some (.ref f_law_mixed)))
    (l15 : K.lookup f_law_mixed = some ⟨oc15, od15, .func (PySem.W.fnOf "_law_mixed" "_law_mixed" (defArgs s_law_mixed) (defBody s_law_mixed) (defScope s_law_mixed) .none kV15 dc15 pm15 an15 cd15 ct15), sl15⟩)
    (c15 : PySem.W.codeIn K cd15 "_law_mixed" = true)
    (k15 : PySem.W.keepIn K (.ref f_law_mixed) = true)
    (g_law_names : PySem.W.nsIn K mainGlobals "_law_names" = some (some (.ref f_law_names)))
    (l16 : K.lookup f_law_names = some ⟨oc16, od16, .func (PySem.W.fnOf "_law_names" "_law_names" (defArgs s_law_names) (defBody s_law_names) (defScope s_law_names) .none kV16 dc16 pm16 an16 cd16 ct16), sl16⟩)
    (c16 : PySem.W.codeIn K cd16 "_law_names" = true)
    (k16 : PySem.W.keepIn K (.ref f_law_names) = true)
    (g_law_kinds : PySem.W.nsIn K mainGlobals "_law_kinds" = some (some (.ref f_law_kinds)))
    (l17 : K.lookup f_law_kinds = some ⟨oc17, od17, .func (PySem.W.fnOf "_law_kinds" "_law_kinds" (defArgs s_law_kinds) (defBody s_law_kinds) (defScope s_law_kinds) .none kV17 dc17 pm17 an17 cd17 ct17), sl17⟩)
    (c17 : PySem.W.codeIn K cd17 "_law_kinds" = true)
    (k17 : PySem.W.keepIn K (.ref f_law_kinds) = true)
    (g_law_any_row : PySem.W.nsIn K mainGlobals "_law_any_row" = some (some (.ref f_law_any_row)))
    (l18 : K.lookup f_law_any_row = some ⟨oc18, od18, .func (PySem.W.fnOf "_law_any_row" "_law_any_row" (defArgs s_law_any_row) (defBody s_law_any_row) (defScope s_law_any_row) .none kV18 dc18 pm18 an18 cd18 ct18), sl18⟩)
    (c18 : PySem.W.codeIn K cd18 "_law_any_row" = true)
    (k18 : PySem.W.keepIn K (.ref f_law_any_row) = true)
    (g_law_bent : PySem.W.nsIn K mainGlobals "_law_bent" = some (some (.ref f_law_bent)))
    (l19 : K.lookup f_law_bent = some ⟨oc19, od19, .func (PySem.W.fnOf "_law_bent" "_law_bent" (defArgs s_law_bent) (defBody s_law_bent) (defScope s_law_bent) .none kV19 dc19 pm19 an19 cd19 ct19), sl19⟩)
    (c19 : PySem.W.codeIn K cd19 "_law_bent" = true)
    (k19 : PySem.W.keepIn K (.ref f_law_bent) = true)
    (g_law_row_text : PySem.W.nsIn K mainGlobals "_law_row_text" = some (some (.ref f_law_row_text)))
    (l20 : K.lookup f_law_row_text = some ⟨oc20, od20, .func (PySem.W.fnOf "_law_row_text" "_law_row_text" (defArgs s_law_row_text) (defBody s_law_row_text) (defScope s_law_row_text) .none kV20 dc20 pm20 an20 cd20 ct20), sl20⟩)
    (c20 : PySem.W.codeIn K cd20 "_law_row_text" = true)
    (k20 : PySem.W.keepIn K (.ref f_law_row_text) = true)
    (g_law_row_of : PySem.W.nsIn K mainGlobals "_law_row_of" = some (some (.ref f_law_row_of)))
    (l21 : K.lookup f_law_row_of = some ⟨oc21, od21, .func (PySem.W.fnOf "_law_row_of" "_law_row_of" (defArgs s_law_row_of) (defBody s_law_row_of) (defScope s_law_row_of) .none kV21 dc21 pm21 an21 cd21 ct21), sl21⟩)
    (c21 : PySem.W.codeIn K cd21 "_law_row_of" = true)
    (k21 : PySem.W.keepIn K (.ref f_law_row_of) = true)
    (g_law_attributes : PySem.W.nsIn K mainGlobals "_law_attributes" = some (some (.ref f_law_attributes)))
    (l22 : K.lookup f_law_attributes = some ⟨oc22, od22, .func (PySem.W.fnOf "_law_attributes" "_law_attributes" (defArgs s_law_attributes) (defBody s_law_attributes) (defScope s_law_attributes) .none kV22 dc22 pm22 an22 cd22 ct22), sl22⟩)
    (c22 : PySem.W.codeIn K cd22 "_law_attributes" = true)
    (k22 : PySem.W.keepIn K (.ref f_law_attributes) = true)
    (g_law : PySem.W.nsIn K mainGlobals "law" = some (some (.ref f_law)))
    (l23 : K.lookup f_law = some ⟨oc23, od23, .func (PySem.W.fnOf "law" "law" (defArgs s_law) (defBody s_law) (defScope s_law) .none kV23 dc23 pm23 an23 cd23 ct23), sl23⟩)
    (c23 : PySem.W.codeIn K cd23 "law" = true)
    (k23 : PySem.W.keepIn K (.ref f_law) = true) :
    ∃ A : Ads, Tx A K mg := ⟨⟨f_is_integer, f_is_name, f_refuse_wrong, f_is_mark_or, f_is_added, Row, Step, Join, Part, f_Step_init, f_Join_init, f_Part_init, f_Row_eq, f_Row_str, f_Row_init, KEYWORDS, KINDS, f_law_deal, f_law_draw, f_law_pick, f_law_mixed, f_law_names, f_law_kinds, f_law_any_row, f_law_bent, f_law_row_text, f_law_row_of, f_law_attributes, f_law⟩, {
    z_isinstance := PySem.W.mg_none_of X G z_isinstance,
    z_int := PySem.W.mg_none_of X G z_int,
    z_bool := PySem.W.mg_none_of X G z_bool,
    z_str := PySem.W.mg_none_of X G z_str,
    z_len := PySem.W.mg_none_of X G z_len,
    z_all := PySem.W.mg_none_of X G z_all,
    z_tuple := PySem.W.mg_none_of X G z_tuple,
    z_range := PySem.W.mg_none_of X G z_range,
    z_zip := PySem.W.mg_none_of X G z_zip,
    z_list := PySem.W.mg_none_of X G z_list,
    z_abs := PySem.W.mg_none_of X G z_abs,
    z_repr := PySem.W.mg_none_of X G z_repr,
    d_is_integer := ⟨PySem.W.mg_of X G g_is_integer, _, fun_mk (st := s_is_integer) l1 c1 k1⟩,
    d_is_name := ⟨PySem.W.mg_of X G g_is_name, _, fun_mk (st := s_is_name) l2 c2 k2⟩,
    d_refuse_wrong := ⟨PySem.W.mg_of X G g_refuse_wrong, _, fun_mk (st := s_refuse_wrong) l3 c3 k3⟩,
    d_is_mark_or := ⟨PySem.W.mg_of X G g_is_mark_or, _, fun_mk (st := s_is_mark_or) l4 c4 k4⟩,
    d_is_added := ⟨PySem.W.mg_of X G g_is_added, _, fun_mk (st := s_is_added) l5 c5 k5⟩,
    g_Row := PySem.W.mg_of X G g_Row,
    g_Step := PySem.W.mg_of X G g_Step,
    g_Join := PySem.W.mg_of X G g_Join,
    g_Part := PySem.W.mg_of X G g_Part,
    m_Step_init := m_Step_init,
    i_f_Step_init := n_f_Step_init,
    d_Step_init := ⟨_, fun_mk (st := s_Step_init) l6 c6 k6⟩,
    m_Join_init := m_Join_init,
    i_f_Join_init := n_f_Join_init,
    d_Join_init := ⟨_, fun_mk (st := s_Join_init) l7 c7 k7⟩,
    m_Part_init := m_Part_init,
    i_f_Part_init := n_f_Part_init,
    d_Part_init := ⟨_, fun_mk (st := s_Part_init) l8 c8 k8⟩,
    m_Step_eq := m_Step_eq,
    i_f_Row_eq := n_f_Row_eq,
    d_Row_eq := ⟨_, fun_mk (st := s_Row_eq) l9 c9 k9⟩,
    m_Join_eq := m_Join_eq,
    m_Part_eq := m_Part_eq,
    m_Step_str := m_Step_str,
    i_f_Row_str := n_f_Row_str,
    d_Row_str := ⟨_, fun_mk (st := s_Row_str) l10 c10 k10⟩,
    m_Join_str := m_Join_str,
    m_Part_str := m_Part_str,
    m_Row_init := m_Row_init,
    i_f_Row_init := n_f_Row_init,
    d_Row_init := ⟨_, fun_mk (st := s_Row_init) l11 c11 k11⟩,
    g_KEYWORDS := PySem.W.mg_of X G g_KEYWORDS,
    t_KEYWORDS := fun H => .inr ⟨oTKEYWORDS, iTKEYWORDS, nTKEYWORDS, lTKEYWORDS, cTKEYWORDS, dTKEYWORDS, by have e := vTKEYWORDS.length; rw [← Array.length_toList, ← e]; exact (by decide : 5 ≤ 1000) |> small, vTKEYWORDS⟩,
    g_KINDS := PySem.W.mg_of X G g_KINDS,
    t_KINDS := fun H => .inr ⟨oTKINDS, iTKINDS, nTKINDS, lTKINDS, cTKINDS, dTKINDS, by have e := vTKINDS.length; rw [← Array.length_toList, ← e]; exact (by decide : 8 ≤ 1000) |> small, vTKINDS⟩,
    o_Row := ⟨opg_Row, ohd_Row, opo_Row, osa_Row, oma_Row, okp_Row, oha_Row, one_Row, omo_Row, oic_Row, oty_Row, ome_Row⟩,
    o_Step := ⟨opg_Step, ohd_Step, opo_Step, osa_Step, oma_Step, okp_Step, oha_Step, one_Step, omo_Step, oic_Step, oty_Step, ome_Step⟩,
    o_Join := ⟨opg_Join, ohd_Join, opo_Join, osa_Join, oma_Join, okp_Join, oha_Join, one_Join, omo_Join, oic_Join, oty_Join, ome_Join⟩,
    o_Part := ⟨opg_Part, ohd_Part, opo_Part, osa_Part, oma_Part, okp_Part, oha_Part, one_Part, omo_Part, oic_Part, oty_Part, ome_Part⟩,
    rowOff := h_rowOff,
    rowRd := h_rowRd,
    rowGa := h_rowGa,
    rowKeep := h_rowKeep,
    ogt := h_ogt,
    otk := h_otk,
    sSR := h_sSR,
    sJR := h_sJR,
    sPR := h_sPR,
    sSJ := h_sSJ,
    sSP := h_sSP,
    sJS := h_sJS,
    sJP := h_sJP,
    sPS := h_sPS,
    sPJ := h_sPJ,
    ssR := h_ssR,
    ssS := h_ssS,
    ssJ := h_ssJ,
    ssP := h_ssP,
    stR := h_stR,
    stS := h_stS,
    stJ := h_stJ,
    stP := h_stP,
    na_Step_words := na_Step_words,
    na_Step_kind := na_Step_kind,
    na_Step_old := na_Step_old,
    na_Step_then := na_Step_then,
    na_Step_add := na_Step_add,
    na_Join_words := na_Join_words,
    na_Join_here := na_Join_here,
    na_Join_there := na_Join_there,
    na_Join_then := na_Join_then,
    na_Join_add := na_Join_add,
    na_Part_words := na_Part_words,
    na_Part_old := na_Part_old,
    na_Part_left := na_Part_left,
    na_Part_right := na_Part_right,
    na_Part_add := na_Part_add,
    na_Part_more := na_Part_more,
    d_law_deal := ⟨PySem.W.mg_of X G g_law_deal, _, fun_mk (st := s_law_deal) l12 c12 k12⟩,
    d_law_draw := ⟨PySem.W.mg_of X G g_law_draw, _, fun_mk (st := s_law_draw) l13 c13 k13⟩,
    d_law_pick := ⟨PySem.W.mg_of X G g_law_pick, _, fun_mk (st := s_law_pick) l14 c14 k14⟩,
    d_law_mixed := ⟨PySem.W.mg_of X G g_law_mixed, _, fun_mk (st := s_law_mixed) l15 c15 k15⟩,
    d_law_names := ⟨PySem.W.mg_of X G g_law_names, _, fun_mk (st := s_law_names) l16 c16 k16⟩,
    d_law_kinds := ⟨PySem.W.mg_of X G g_law_kinds, _, fun_mk (st := s_law_kinds) l17 c17 k17⟩,
    d_law_any_row := ⟨PySem.W.mg_of X G g_law_any_row, _, fun_mk (st := s_law_any_row) l18 c18 k18⟩,
    d_law_bent := ⟨PySem.W.mg_of X G g_law_bent, _, fun_mk (st := s_law_bent) l19 c19 k19⟩,
    d_law_row_text := ⟨PySem.W.mg_of X G g_law_row_text, _, fun_mk (st := s_law_row_text) l20 c20 k20⟩,
    d_law_row_of := ⟨PySem.W.mg_of X G g_law_row_of, _, fun_mk (st := s_law_row_of) l21 c21 k21⟩,
    d_law_attributes := ⟨PySem.W.mg_of X G g_law_attributes, _, fun_mk (st := s_law_attributes) l22 c22 k22⟩,
    d_law := ⟨PySem.W.mg_of X G g_law, _, fun_mk (st := s_law) l23 c23 k23⟩ }⟩

end Fk


open PySem PySem.W PyProof.Rows
theorem PySem.Challenge.cw_forkpolls_k02_rows_made_holds : PySem.Challenge.rw_forkpolls_k02_rows_made.Holds := by
  w_on; o_law; k_head; (case hw => w_witness2)
  k_fill
  refine Fk.walk_ofG (l := PySem.Challenge.rw_forkpolls_k02_rows_made) (n := 63) (k := 8) (x := "_law_script") (CX := fun _ => L2.CX0) (sp := fun w => Fk.spLaw _) rfl (by decide) rfl ⟨rfl, by decide, by decide⟩ (fun w h Y => PySem.W.kIn_of Y) ?F (fun _ _ a ns _ _ hS => ⟨a, ns, rfl, hS, fun _ => rfl⟩) (fun _ _ _ _ _ h => h)
  case F =>
    intro w mg fa h KX G hmg
    refine' Exists.elim (Fk.gather KX G ?z_isinstance ?z_int ?z_bool ?z_str ?z_len ?z_all ?z_tuple ?z_range ?z_zip ?z_list ?z_abs ?z_repr ?g_is_integer ?l1 ?c1 ?k1 ?g_is_name ?l2 ?c2 ?k2 ?g_refuse_wrong ?l3 ?c3 ?k3 ?g_is_mark_or ?l4 ?c4 ?k4 ?g_is_added ?l5 ?c5 ?k5 ?g_Row ?g_Step ?g_Join ?g_Part ?m_Step_init ?n_f_Step_init ?l6 ?c6 ?k6 ?m_Join_init ?n_f_Join_init ?l7 ?c7 ?k7 ?m_Part_init ?n_f_Part_init ?l8 ?c8 ?k8 ?m_Step_eq ?n_f_Row_eq ?l9 ?c9 ?k9 ?m_Join_eq ?m_Part_eq ?m_Step_str ?n_f_Row_str ?l10 ?c10 ?k10 ?m_Join_str ?m_Part_str ?m_Row_init ?n_f_Row_init ?l11 ?c11 ?k11 ?g_KEYWORDS ?lTKEYWORDS ?cTKEYWORDS ?dTKEYWORDS ?vTKEYWORDS ?g_KINDS ?lTKINDS ?cTKINDS ?dTKINDS ?vTKINDS ?opg_Row ?ohd_Row ?opo_Row ?osa_Row ?oma_Row ?okp_Row ?oha_Row ?one_Row ?omo_Row ?oic_Row ?oty_Row ?ome_Row ?opg_Step ?ohd_Step ?opo_Step ?osa_Step ?oma_Step ?okp_Step ?oha_Step ?one_Step ?omo_Step ?oic_Step ?oty_Step ?ome_Step ?opg_Join ?ohd_Join ?opo_Join ?osa_Join ?oma_Join ?okp_Join ?oha_Join ?one_Join ?omo_Join ?oic_Join ?oty_Join ?ome_Join ?opg_Part ?ohd_Part ?opo_Part ?osa_Part ?oma_Part ?okp_Part ?oha_Part ?one_Part ?omo_Part ?oic_Part ?oty_Part ?ome_Part ?h_rowOff ?h_rowRd ?h_rowGa ?h_rowKeep ?h_ogt ?h_otk ?h_sSR ?h_sJR ?h_sPR ?h_sSJ ?h_sSP ?h_sJS ?h_sJP ?h_sPS ?h_sPJ ?h_ssR ?h_ssS ?h_ssJ ?h_ssP ?h_stR ?h_stS ?h_stJ ?h_stP ?na_Step_words ?na_Step_kind ?na_Step_old ?na_Step_then ?na_Step_add ?na_Join_words ?na_Join_here ?na_Join_there ?na_Join_then ?na_Join_add ?na_Part_words ?na_Part_old ?na_Part_left ?na_Part_right ?na_Part_add ?na_Part_more ?g_law_deal ?l12 ?c12 ?k12 ?g_law_draw ?l13 ?c13 ?k13 ?g_law_pick ?l14 ?c14 ?k14 ?g_law_mixed ?l15 ?c15 ?k15 ?g_law_names ?l16 ?c16 ?k16 ?g_law_kinds ?l17 ?c17 ?k17 ?g_law_any_row ?l18 ?c18 ?k18 ?g_law_bent ?l19 ?c19 ?k19 ?g_law_row_text ?l20 ?c20 ?k20 ?g_law_row_of ?l21 ?c21 ?k21 ?g_law_attributes ?l22 ?c22 ?k22 ?g_law ?l23 ?c23 ?k23) ?use
    (case z_isinstance => k_is)
    (case z_int => k_is)
    (case z_bool => k_is)
    (case z_str => k_is)
    (case z_len => k_is)
    (case z_all => k_is)
    (case z_tuple => k_is)
    (case z_range => k_is)
    (case z_zip => k_is)
    (case z_list => k_is)
    (case z_abs => k_is)
    (case z_repr => k_is)
    (case g_is_integer => k_is)
    (case l1 => k_is)
    (case c1 => k_is)
    (case k1 => k_is)
    (case g_is_name => k_is)
    (case l2 => k_is)
    (case c2 => k_is)
    (case k2 => k_is)
    (case g_refuse_wrong => k_is)
    (case l3 => k_is)
    (case c3 => k_is)
    (case k3 => k_is)
    (case g_is_mark_or => k_is)
    (case l4 => k_is)
    (case c4 => k_is)
    (case k4 => k_is)
    (case g_is_added => k_is)
    (case l5 => k_is)
    (case c5 => k_is)
    (case k5 => k_is)
    (case g_Row => k_is)
    (case g_Step => k_is)
    (case g_Join => k_is)
    (case g_Part => k_is)
    (case m_Step_init => k_is)
    (case n_f_Step_init => k_is)
    (case l6 => k_is)
    (case c6 => k_is)
    (case k6 => k_is)
    (case m_Join_init => k_is)
    (case n_f_Join_init => k_is)
    (case l7 => k_is)
    (case c7 => k_is)
    (case k7 => k_is)
    (case m_Part_init => k_is)
    (case n_f_Part_init => k_is)
    (case l8 => k_is)
    (case c8 => k_is)
    (case k8 => k_is)
    (case m_Step_eq => k_is)
    (case n_f_Row_eq => k_is)
    (case l9 => k_is)
    (case c9 => k_is)
    (case k9 => k_is)
    (case m_Join_eq => k_is)
    (case m_Part_eq => k_is)
    (case m_Step_str => k_is)
    (case n_f_Row_str => k_is)
    (case l10 => k_is)
    (case c10 => k_is)
    (case k10 => k_is)
    (case m_Join_str => k_is)
    (case m_Part_str => k_is)
    (case m_Row_init => k_is)
    (case n_f_Row_init => k_is)
    (case l11 => k_is)
    (case c11 => k_is)
    (case k11 => k_is)
    (case g_KEYWORDS => k_is)
    (case lTKEYWORDS => k_is)
    (case cTKEYWORDS => rfl)
    (case dTKEYWORDS => rfl)
    (case vTKEYWORDS => exact .cons ⟨_, rfl⟩ (.cons ⟨_, rfl⟩ (.cons ⟨_, rfl⟩ (.cons ⟨_, rfl⟩ (.cons ⟨_, rfl⟩ (.nil))))))
    (case g_KINDS => k_is)
    (case lTKINDS => k_is)
    (case cTKINDS => rfl)
    (case dTKINDS => rfl)
    (case vTKINDS => exact .cons ⟨_, rfl⟩ (.cons ⟨_, rfl⟩ (.cons ⟨_, rfl⟩ (.cons ⟨_, rfl⟩ (.cons ⟨_, rfl⟩ (.cons ⟨_, rfl⟩ (.cons ⟨_, rfl⟩ (.cons ⟨_, rfl⟩ (.nil)))))))))
    (case opg_Row => k_is)
    (case ohd_Row => k_is)
    (case opo_Row => k_is)
    (case osa_Row => k_is)
    (case oma_Row => k_is)
    (case okp_Row => k_is)
    (case oha_Row => k_is)
    (case one_Row => k_is)
    (case omo_Row => k_is)
    (case oic_Row => k_is)
    (case oty_Row => k_is)
    (case ome_Row => k_is)
    (case opg_Step => k_is)
    (case ohd_Step => k_is)
    (case opo_Step => k_is)
    (case osa_Step => k_is)
    (case oma_Step => k_is)
    (case okp_Step => k_is)
    (case oha_Step => k_is)
    (case one_Step => k_is)
    (case omo_Step => k_is)
    (case oic_Step => k_is)
    (case oty_Step => k_is)
    (case ome_Step => k_is)
    (case opg_Join => k_is)
    (case ohd_Join => k_is)
    (case opo_Join => k_is)
    (case osa_Join => k_is)
    (case oma_Join => k_is)
    (case okp_Join => k_is)
    (case oha_Join => k_is)
    (case one_Join => k_is)
    (case omo_Join => k_is)
    (case oic_Join => k_is)
    (case oty_Join => k_is)
    (case ome_Join => k_is)
    (case opg_Part => k_is)
    (case ohd_Part => k_is)
    (case opo_Part => k_is)
    (case osa_Part => k_is)
    (case oma_Part => k_is)
    (case okp_Part => k_is)
    (case oha_Part => k_is)
    (case one_Part => k_is)
    (case omo_Part => k_is)
    (case oic_Part => k_is)
    (case oty_Part => k_is)
    (case ome_Part => k_is)
    (case h_rowOff => k_is)
    (case h_rowRd => k_is)
    (case h_rowGa => k_is)
    (case h_rowKeep => k_is)
    (case h_ogt => k_is)
    (case h_otk => k_is)
    (case h_sSR => k_is)
    (case h_sJR => k_is)
    (case h_sPR => k_is)
    (case h_sSJ => k_is)
    (case h_sSP => k_is)
    (case h_sJS => k_is)
    (case h_sJP => k_is)
    (case h_sPS => k_is)
    (case h_sPJ => k_is)
    (case h_ssR => k_is)
    (case h_ssS => k_is)
    (case h_ssJ => k_is)
    (case h_ssP => k_is)
    (case h_stR => k_is)
    (case h_stS => k_is)
    (case h_stJ => k_is)
    (case h_stP => k_is)
    (case na_Step_words => k_is)
    (case na_Step_kind => k_is)
    (case na_Step_old => k_is)
    (case na_Step_then => k_is)
    (case na_Step_add => k_is)
    (case na_Join_words => k_is)
    (case na_Join_here => k_is)
    (case na_Join_there => k_is)
    (case na_Join_then => k_is)
    (case na_Join_add => k_is)
    (case na_Part_words => k_is)
    (case na_Part_old => k_is)
    (case na_Part_left => k_is)
    (case na_Part_right => k_is)
    (case na_Part_add => k_is)
    (case na_Part_more => k_is)
    (case g_law_deal => k_is)
    (case l12 => k_is)
    (case c12 => k_is)
    (case k12 => k_is)
    (case g_law_draw => k_is)
    (case l13 => k_is)
    (case c13 => k_is)
    (case k13 => k_is)
    (case g_law_pick => k_is)
    (case l14 => k_is)
    (case c14 => k_is)
    (case k14 => k_is)
    (case g_law_mixed => k_is)
    (case l15 => k_is)
    (case c15 => k_is)
    (case k15 => k_is)
    (case g_law_names => k_is)
    (case l16 => k_is)
    (case c16 => k_is)
    (case k16 => k_is)
    (case g_law_kinds => k_is)
    (case l17 => k_is)
    (case c17 => k_is)
    (case k17 => k_is)
    (case g_law_any_row => k_is)
    (case l18 => k_is)
    (case c18 => k_is)
    (case k18 => k_is)
    (case g_law_bent => k_is)
    (case l19 => k_is)
    (case c19 => k_is)
    (case k19 => k_is)
    (case g_law_row_text => k_is)
    (case l20 => k_is)
    (case c20 => k_is)
    (case k20 => k_is)
    (case g_law_row_of => k_is)
    (case l21 => k_is)
    (case c21 => k_is)
    (case k21 => k_is)
    (case g_law_attributes => k_is)
    (case l22 => k_is)
    (case c22 => k_is)
    (case k22 => k_is)
    (case g_law => k_is)
    (case l23 => k_is)
    (case c23 => k_is)
    (case k23 => k_is)
    intro A T
    obtain ⟨fd, hb, hF⟩ := Fk.whole (P := PySem.Challenge.rw_forkpolls_k02_rows_made.prog) (w := w) T
    have e : fa = A.f_law := by
      have e1 := hmg.symm.trans T.d_law.1
      exact Value.ref.inj (Option.some.inj e1)
    subst e
    exact ⟨fd, hb, fun base _ _ => hF base⟩


