import PyProof.Rows.All
import Wide.All
import OpenK.AllK
import Wide.FinOn
import HandS.ForMost
import KE.KExcInit
import KE.KExcIs
import HandS.ExcInit
import HandS.ExcOwn
import HandS.ExcValue
import HandS.IsInst
import HandS.ForExc
import HandS.Star
import HandS.ClsMeth
import HandS.More
import HandS.Head0
import HandS.Head1
import HandS.Head2
import HandS.HeadEnd
import HandS.HeadHook4
import HandS.Text
import HandS.TupAny
import HandS.DictComp
import HandS.SetKeys
import HandS.Iter
import HandS.Walk
import HandS.Strs
import HandS.SetFor
import PyProof.AttrMiss
import KE.KExcSuper
import PySem.Challenge.RW_maybegone_k48_rules_by_operators
set_option Elab.async false
set_option linter.all false
set_option maxRecDepth 100000
set_option maxHeartbeats 4000000
namespace G
open PySem PySem.Spec PyProof.Rows L2

/-! ### heaps -/
/-- all that was tracked stands as it was, but for what stands at one of S -/
def Kp (S : List Addr) (H H' : Hp) : Prop := ∀ b o, b ∉ S → H b = some o → H' b = some o
theorem Kp.refl (S : List Addr) (H : Hp) : Kp S H H := fun _ _ _ h => h
theorem Kp.trans {S : List Addr} {H H1 H2 : Hp} (a : Kp S H H1) (b : Kp S H1 H2) : Kp S H H2 := fun c o d h => b c o d (a c o d h)
theorem Kp.mono {S T : List Addr} {H H' : Hp} (a : Kp S H H') (h : ∀ b, b ∈ S → b ∈ T) : Kp T H H' := fun c o d e => a c o (fun z => d (h c z)) e
/-- a new object -/
theorem Kp.new {S : List Addr} {p : Addr} {H H' : Hp} {o : HO} (a : Kp S H H') (h : H' p = none) : Kp S H (upd H' p o) := fun c u d e => by
  have q := a c u d e
  rw [upd_ne (ne_of_none q h)]
  exact q
/-- one of S is changed -/
theorem Kp.put {S : List Addr} {p : Addr} {H H' : Hp} {o : HO} (a : Kp S H H') (h : p ∈ S) : Kp S H (upd H' p o) := fun c u d e => by
  have hc : c ≠ p := fun z => d (by rw [z]; exact h)
  rw [upd_ne hc]
  exact a c u d e
/-- what was not there yet need not be kept -/
theorem Kp.fresh {S : List Addr} {p : Addr} {H H' : Hp} (a : Kp (p :: S) H H') (h : H p = none) : Kp S H H' := fun c u d e => a c u (fun z => by
  rcases List.mem_cons.mp z with z | z
  · rw [z, h] at e
    cases e
  · exact d z) e
theorem Kp.same {S : List Addr} {H H' : Hp} (s : Same H H') : Kp S H H' := fun c u _ e => s c u e
theorem Kp.toSame {H H' : Hp} (s : Kp [] H H') : Same H H' := fun c u e => s c u (fun z => by cases z) e
theorem Kp.seq {K : PySem.W.Frag} {S : List Addr} {a : Addr} {H H' : Hp} {xs : List V} (k : Kp S H H') (d : a ∉ S) (h : SqL K H a xs) : SqL K H' a xs := by
  rcases h with (h | ⟨o, h⟩) | h
  · exact .inl (.inl (k _ _ d h))
  · exact .inl (.inr ⟨o, k _ _ d h⟩)
  · exact .inr h

theorem Kp.none_of {S : List Addr} {a : Addr} {H H' : Hp} (k : Kp S H H') (h : H' a = none) (d : a ∉ S) : H a = none := by
  cases e : H a with
  | none => rfl
  | some o =>
    rw [k a o d e] at h
    cases h

/-! ### the deck -/
/-- a list of a list of numbers, and of a count of at most n -/
structure Deck (H : Hp) (D L : Addr) (n : Nat) : Prop where
  ne : D ≠ L
  ex : ∃ (m : Int) (ns : List Int), H D = some (.lst [.ref L, .int m]) ∧ H L = some (.lst (ns.map V.int)) ∧ 0 ≤ m ∧ m ≤ (n : Int) ∧ ns.length ≤ 63 ∧ ∀ x ∈ ns, 0 ≤ x
theorem Deck.mono {H : Hp} {D L : Addr} {n n' : Nat} (d : Deck H D L n) (h : n ≤ n') : Deck H D L n' := by
  obtain ⟨ne, m, ns, h1, h2, h3, h4, h5, h6⟩ := d
  exact ⟨ne, m, ns, h1, h2, h3, by omega, h5, h6⟩
theorem Deck.kp {S : List Addr} {H H' : Hp} {D L : Addr} {n : Nat} (d : Deck H D L n) (k : Kp S H H') (hD : D ∉ S) (hL : L ∉ S) : Deck H' D L n := by
  obtain ⟨ne, m, ns, h1, h2, h3⟩ := d
  exact ⟨ne, m, ns, k _ _ hD h1, k _ _ hL h2, h3⟩
theorem Deck.new {H : Hp} {D L p : Addr} {n : Nat} {o : HO} (d : Deck H D L n) (h : H p = none) : Deck (upd H p o) D L n :=
  d.kp (Kp.new (Kp.refl [] H) h) (fun z => by cases z) (fun z => by cases z)
theorem Deck.neD {H : Hp} {D L p : Addr} {n : Nat} (d : Deck H D L n) (h : H p = none) : p ≠ D ∧ p ≠ L := by
  obtain ⟨ne, m, ns, h1, h2, h3⟩ := d
  exact ⟨(ne_of_none h1 h).symm, (ne_of_none h2 h).symm⟩

/-- the built-in names that are used -/
structure Bi (mg : Str → Option Value) : Prop where
  z_len : mg "len" = none
  z_abs : mg "abs" = none
  z_int : mg "int" = none
  z_range : mg "range" = none

theorem cut_all {xs : List V} (h : xs.length ≤ 63) : cutV xs none (some 63) = xs := by
  unfold cutV
  rw [HT.sIx_none, show HT.sIx xs.length xs.length (some 63) = min 63 xs.length from HT.sIx_nat xs.length xs.length 63]
  show List.take (min 63 xs.length - 0) (List.drop 0 xs) = xs
  rw [List.drop_zero, Nat.min_eq_right h, Nat.sub_zero, List.take_length]
def iabs (i : Int) : Int := if i < 0 then -i else i
theorem iabs_nonneg (i : Int) : 0 ≤ iabs i := by
  unfold iabs
  split <;> omega
theorem take_step {α : Type} {l : List α} {i : Nat} {x : α} (h : l[i]? = some x) : l.take (i + 1) = l.take i ++ [x] := by
  rw [List.take_add_one, h]
  all_goals rfl
theorem line1000 {n : Nat} (h : n ≤ 1000) : n ≤ sizeLine := Nat.le_of_lt (small1000 h)
end G

set_option Elab.async false
set_option linter.all false
set_option maxRecDepth 100000
set_option maxHeartbeats 4000000
/-! A def that is called where nothing guards against itself (the law at the very top): there repr of nested data may be used. -/
namespace G
open PySem PySem.Spec PyProof.Rows L2
/-- repr of data without dicts -/
def rRepr (K : PySem.W.Frag) : List V → Hp → VK → Prop := fun vs H Q => ∃ (v : V) (d : PyData), vs = [v] ∧ Dp K H v d ∧ d.showable = true ∧
  d.hasDict = false ∧ d.depth ≤ 100 ∧ d.shown.length ≤ sizeLine ∧ Q (.str d.shown) H
theorem call_reprD {X : Cx} (hg : X.A.guards = some []) (hu : X.A.units + 101 < cLine) : CallR X (.builtin "repr") (rRepr X.K) := by
  intro pins s σ H vs us Q I r h
  obtain ⟨v, d, rfl, hd, hs, hn, hdep, hz, q⟩ := h
  obtain ⟨u, rfl, rv⟩ := vals1 r
  obtain ⟨as, rd⟩ := Dp.reads I d v u hd rv
  cases hd with
  | non =>
    cases rv
    exact PySem.P.repr_of_none ⟨.str _, H, I.tok _, ⟨_, rfl⟩, by simpa only [PyData.shown] using q⟩
  | bl b =>
    cases rv
    exact PySem.P.repr_of_bool ⟨.str _, H, I.tok _, ⟨_, rfl⟩, by simpa only [PyData.shown] using q⟩
  | int i =>
    obtain ⟨t, rfl⟩ := rv
    exact PySem.P.repr_of_int (by simpa [PyData.showable] using hs) ⟨.str _, H, I.tok _, ⟨_, rfl⟩, by simpa only [PyData.shown] using q⟩
  | str x =>
    obtain ⟨t, rfl⟩ := rv
    exact PySem.P.repr_of_str ⟨.str _, H, I.tok _, ⟨_, rfl⟩, by simpa only [PyData.shown] using q⟩ (by simpa only [PyData.shown] using hz)
  | lst h1 h2 =>
    cases rv
    exact repr_of_reads' rd hs (PyData.noDict_hsm hn) hg (by omega) (fun _ _ e => e) (fun h' t tk hk => ⟨.str _, H, I.kept hk, ⟨_, rfl⟩, q⟩) hz
  | tup h1 h2 =>
    cases rv
    exact repr_of_reads' rd hs (PyData.noDict_hsm hn) hg (by omega) (fun _ _ e => e) (fun h' t tk hk => ⟨.str _, H, I.kept hk, ⟨_, rfl⟩, q⟩) hz
/-- a def's promise where no guard stands around the call -/
structure FnOkG (P : Program) (w : World) (K : PySem.W.Frag) (mg : Str → Option Value) (base : Heap) (k : Nat) (f : Addr) (fd : FuncData) (ps : List Str) (sp : Sp) : Prop where
  len : ∀ vs H Q E, sp vs H Q E → vs.length = ps.length
  run : ∀ (A : Around) (outer : List Env) (s : Shared) (H : Hp) (args : Args) (us : List Value) (vs : List V) (Q : VK) (E : XK),
    A.guards = some [] → Room k A → Env0 P w K mg base A outer s H → BindsTo s fd args (ps.zip us) →
    Vals vs us → sp vs H Q E →
    codeAny (model P w) A (.call (.ref f) args) (CR CX0 outer P w H s Q E) s
/-- the rule for such a def: its body as a term of rules, and the reading of that term -/
theorem Fun.okG {P : Program} {w : World} {K : PySem.W.Frag} {mg : Str → Option Value} {base : Heap} {x qual : Str} {st : Stmt} {f : Addr} {fd : FuncData}
    {N ps : List Str} {k : Nat} {sp : Sp} (F : Fun K x qual st f fd) (S : FnScope N ps (defScope st)) (len : ∀ vs H Q E, sp vs H Q E → vs.length = ps.length)
    (body : ∀ (cdv : Value) (A : Around) (outer : List Env) (s : Shared) (H : Hp) (vs : List V) (Q : VK) (E : XK), A.guards = some [] →
      Room k (A.deeper (envOfC qual (defScope st) s.heap.objs.size f cdv)) → sp vs H Q E →
      ∃ t, PSs (cxOf CX0 P w K mg base N qual (defScope st) f cdv A outer s H E).nox (defBody st) t ∧
        t { nx := fun _ H' => Q .non H', rt := Q } (start N vs) H) : FnOkG P w K mg base (k + 1) f fd ps sp := by
  obtain ⟨oc, od, kV, doc, pm, an, cdv, ct, osl, rfl, lk, hcd⟩ := F.ex
  refine ⟨len, fun A outer s H args us vs Q E hg hr e0 hb r hsp => ?_⟩
  have nvs := len _ _ _ _ hsp
  have kept0 : ∀ b o, base.get? b = some o → s.heap.get? b = some o := fun b o e => (e0.bs b o e).1
  have KS : K.In s.heap := e0.mod.kin.keeps kept0
  have NL : s.heap.NoLimit := e0.mod.nolimit.keeps kept0
  have kinds : ∀ y ∈ ps.zip us, (defScope st).names.lookup y.1 = some .local ∨ ((defScope st).names.lookup y.1 = some .cell ∧
      ((cellsFrom (s.heap.objs.size + 1) (defScope st).names []).lookup y.1).isSome = true) := by
    rintro ⟨n, v⟩ hy
    have hm := (List.of_mem_zip hy).1
    cases S.par n hm with
    | inl z => exact Or.inl z
    | inr z => exact Or.inr ⟨z, PySem.W.cellsFrom_some _ _ _ (Or.inl z)⟩
  refine codeAny_call_function hr.depth (KS _ _ lk) rfl S.co S.gen rfl (PySem.W.codeRec_of KS hcd) (hb _ _ _ _ ?_)
  refine wpAny_newFunctionEnv_cells S.kind kinds fun env he s1 x1 => ?_
  subst he
  refine ⟨NL.keeps x1.toInCall.keep, codeAny_func ?_⟩
  obtain ⟨t, ht0, hq⟩ := body cdv A outer s H vs Q E hg (hr.deeper _) hsp
  have ht := ht0.nox
  have J0 : Inv (cxOf CX0 P w K mg base N qual (defScope st) f cdv A outer s H E) [] (start N vs) H s1 :=
    inv_start S hr.hd e0 nvs r x1
  refine wpAny_mono (ht.run [] s1 (start N vs) H _ J0 hq) (fun fl s2 hs => ?_) fun e s2 hs => hs
  cases fl with
  | next =>
    obtain ⟨σ2, H2, J, q⟩ := hs
    exact ⟨V.non, H2, J.os, J.bare, J.base, J.hok, rfl, q⟩
  | ret u =>
    obtain ⟨v, σ2, H2, J, rv, q⟩ := hs
    exact ⟨v, H2, J.os, J.bare, J.base, J.hok, rv, q⟩
  | brk =>
    obtain ⟨_, _, _, q⟩ := hs
    exact False.elim q
  | cont =>
    obtain ⟨_, _, _, q⟩ := hs
    exact False.elim q
/-! ### the end: the law's own def by such a promise -/
/-- what the law promises: at a list of at most n ints it gives True -/
def spLawN (K : PySem.W.Frag) (n : Nat) : Sp := fun vs H Q _ => ∃ (a : Addr) (ns : List Int), vs = [.ref a] ∧ SqL K H a (ns.map V.int) ∧ ns.length ≤ n ∧ ∀ H', Q (.bl true) H'
/-- one abstract heap, in which nothing but the script may be tracked, is enough -/
theorem call_at {P : Program} {w : World} {K : PySem.W.Frag} {mg mb : Str → Option Value} {k n : Nat} {fa a : Addr} {fd : FuncData} {x : Str}
    {s₁ : Shared} {vs : List Value} {ns : List Int} (KX : K.In s₁.heap) (hns : s₁.heap.Ns mainGlobals mg) (hb : s₁.heap.Ns builtinsNs mb)
    (hbb : ∀ x : Str, x ≠ "__name__" → mb x = bootBuiltins x) (hlim : s₁.heap.NoLimit) (hg : s₁.gens = #[])
    (ha : s₁.heap.get? a = some { cls := .type "list", data := .seq vs.toArray }) (hln : ns.length ≤ n) (hr : Room k callerA)
    (F : ∀ base : Heap, K.In base → base.Ns mainGlobals mg → FnOkG P w K mg base k fa fd [x] (spLawN K n))
    (hbind : ∀ (s : Shared) (u : Value), BindsTo s fd ⟨[u], []⟩ [(x, u)])
    (H : Hp) (hO : ∀ b, H b = none ∨ ∃ o xs, H b = some (.frz o (.lst xs))) (hS : SqL K H a (ns.map V.int)) (hok : HOk P w H s₁.heap)
    (hA : ∀ b, H b ≠ none → b = a) (hK : H a ≠ none → K.lookup a = none) :
    codeAny (model P w) callerA (.call (.ref fa) ⟨[.ref a], []⟩)
      (fun r s' => r = .ok (.ret (.bool true)) ∧ OldK s₁.heap s'.heap ∧ s'.os = s₁.os ∧ AllBare s'.gens) s₁ := by
  have seen : ∀ {b : Addr} {o : Obj}, s₁.heap.get? b = some o → H b = none → (hidT s₁.heap H).get? b = some o := fun e z => hidT_get e z
  have dictFree : ∀ {b : Addr} {o : Obj} {es : Array DictEntry} {ep : Nat}, s₁.heap.get? b = some o → o.data = .dict es ep → H b = none := by
    intro b o es ep e d
    cases q : H b with
    | none => rfl
    | some u =>
      obtain rfl : b = a := hA b (by simp [q])
      rw [ha] at e
      cases e
      exact nomatch (show Data.seq vs.toArray _ = Data.dict es ep from d)
  have nsOf : ∀ {b : Addr} {m : Str → Option Value}, s₁.heap.Ns b m → (hidT s₁.heap H).Ns b m := by
    rintro b m ⟨o, es, ep, e, d, r⟩
    exact ⟨o, es, ep, seen e (dictFree e d), d, r⟩
  have inB : K.In (hidT s₁.heap H) := by
    intro b o e
    refine seen (KX b o e) ?_
    cases q : H b with
    | none => rfl
    | some u =>
      obtain rfl : b = a := hA b (by simp [q])
      rw [hK (by simp [q])] at e
      cases e
  have md : Mod K mg (hidT s₁.heap H) := by
    obtain ⟨mc, l1, l2⟩ := hlim
    exact ⟨inB, nsOf hns, ⟨mb, nsOf hb, hbb⟩, ⟨mc, nsOf l1, l2⟩⟩
  have en : Env0 P w K mg (hidT s₁.heap H) callerA [] s₁ H :=
    { frames := rfl, mod := md, bs := fun b o e => of_hidT e, bsz := Nat.le_of_eq (hidT_size _ _), funs := trivial
      frf := fun b hb => by cases hb
      hok := hok, bare := .of_eq hg }
  have FB := F _ inB (nsOf hns)
  refine codeAny_mono (FB.run callerA [] s₁ H ⟨[.ref a], []⟩ [.ref a] [.ref a] (fun v _ => v = .bl true) (fun _ _ _ => False) rfl hr en
    (hbind s₁ (.ref a)) (.cons rfl .nil) ⟨a, ns, rfl, hS, hln, fun _ => rfl⟩) fun r s' h => ?_
  match r, h with
  | .ok (.ret u), h =>
    obtain ⟨v, H', os, bare, un, hok', r', q⟩ := h
    have ev : v = .bl true := q
    subst ev
    have eu : u = Value.bool true := r'
    subst eu
    refine ⟨rfl, OldK.of_keep fun b o e => ?_, os, bare⟩
    cases q2 : H b with
    | none => exact un.keep b o e q2 (by simp [frs]) (by simp)
    | some u2 =>
      rcases hO b with z | ⟨ob, xs, z⟩
      · rw [q2] at z
        cases z
      · obtain ⟨w1, _⟩ := hok b _ z
        obtain ⟨w2, _⟩ := hok' b _ (un.frzs b ob _ z)
        rw [e] at w1
        cases w1
        exact w2
  | .ok .next, h => exact False.elim h
  | .ok .brk, h => exact False.elim h
  | .ok .cont, h => exact False.elim h
  | .error e, h => exact False.elim h
theorem walk_ofG {l : PySem.W.OpenLaw} {n k : Nat} {q : Program} {loose : List Str} {XP : (Str → Option Value) → Heap → Prop} {YP : World → Heap → Prop}
    {d : DefRec} {K : Params → PySem.W.Frag} {x : Str} (hn : l.most = some n) (hn2 : n ≤ sizeLine) (hdf : d.params.defaults = []) (hr : Room k callerA)
    (hY : ∀ (w : World) (h : Heap), YP w h → (K w.params).In h)
    (F : ∀ (w : World) (mg : Str → Option Value) (fa : Addr) (h : Heap), (K w.params).In h → h.Ns mainGlobals mg → mg d.name = some (.ref fa) →
      ∃ fd : FuncData, (∀ (s : Shared) (u : Value), BindsTo s fd ⟨[u], []⟩ [(x, u)]) ∧
        ∀ base : Heap, (K w.params).In base → base.Ns mainGlobals mg → FnOkG l.prog w (K w.params) mg base k fa fd [x] (spLawN (K w.params) n)) :
    PySem.W.WalkO q loose XP YP l.row.toRowW d [] (fun f vs => PySem.call f vs) := by
  refine Att.attach_call hn hdf fun w s₀ s₁ mg mb fa o pm cd doc a vs ns Gr Y ho hd hcd hmg hobj hints hlen hgens => ?_
  have KX := hY w _ Y
  obtain ⟨fd, hb, hF⟩ := F w mg fa _ KX Gr.T.g hmg
  have rv := vals_ints hints
  have hl : ns.length ≤ sizeLine := Nat.le_trans hlen hn2
  have goal := @call_at l.prog w (K w.params) mg mb k n fa a fd x s₁ vs ns KX Gr.T.g Gr.T.b Gr.T.builtins Gr.T.nolimit hgens hobj hlen hr hF hb
  cases hk : (K w.params).lookup a with
  | some o1 =>
    have e := KX a o1 hk
    rw [hobj] at e
    cases e
    refine goal (fun _ => none) (fun _ => Or.inl rfl) (Or.inr ⟨_, vs.toArray, _, hk, rfl, rfl, rfl, ?_, by simpa using rv⟩) (fun b u z => nomatch z) (fun b z => absurd rfl z) fun z => absurd rfl z
    rw [List.size_toArray, hints.length]
    exact hl
  | none =>
    let frozen : HO := .frz { cls := .type "list", data := .seq vs.toArray } (.lst (ns.map V.int))
    have at_a : ∀ b, b = a → (fun b => if b = a then some frozen else none : Hp) b = some frozen := fun b hb => if_pos hb
    have off_a : ∀ b, b ≠ a → (fun b => if b = a then some frozen else none : Hp) b = none := fun b hb => if_neg hb
    refine goal (fun b => if b = a then some frozen else none) (fun b => ?_) (Or.inl (Or.inr ⟨_, at_a a rfl⟩)) (fun b u z => ?_) (fun b z => ?_) fun _ => hk
    · by_cases hb : b = a
      · exact Or.inr ⟨_, _, at_a b hb⟩
      · exact Or.inl (off_a b hb)
    · by_cases hb : b = a
      · rw [at_a b hb] at z
        cases z
        subst hb
        exact ⟨hobj, by rw [List.length_map]; exact hl, vs, _, rv, hobj⟩
      · rw [off_a b hb] at z
        cases z
    · by_cases hb : b = a
      · exact hb
      · exact absurd (off_a b hb) z
end G

set_option Elab.async false
set_option linter.all false
set_option maxRecDepth 100000
set_option maxHeartbeats 4000000
/-! How long a shown text may be; repr of data and of small dicts. -/
namespace G
open PySem PySem.Spec PyProof.Rows L2
/-- a text of Unicode's signs -/
def OkS (x : Str) : Prop := ∀ c ∈ x.cps.toList, c < 1114112
theorem OkS.of (s : String) : OkS (Str.ofString s) := by
  intro c hc
  rw [PyProof.Rows.signs_ofString] at hc
  obtain ⟨d, _, rfl⟩ := List.mem_map.mp hc
  have h := d.valid
  have z : d.toNat = d.val.toNat := rfl
  rw [z]
  rcases h with h | ⟨_, h⟩
  · exact Nat.lt_trans h (by decide)
  · exact h
theorem OkS.app {x y : Str} (a : OkS x) (b : OkS y) : OkS (x ++ y) := by
  intro c hc
  have e : (x ++ y).cps.toList = x.cps.toList ++ y.cps.toList := by
    show (x.cps ++ y.cps).toList = _
    rw [Array.toList_append]
  rw [e] at hc
  rcases List.mem_append.mp hc with h | h
  · exact a c h
  · exact b c h
theorem reprChar_le {q c : Nat} (hc : c < 1114112) : (PySem.Builtin.Str.reprChar q c).length ≤ 10 := by
  have h6 : (Nat.toDigits 16 c).length ≤ 6 := by
    refine (Nat.length_toDigits_le_iff (by decide) (by decide)).mpr ?_
    omega
  unfold PySem.Builtin.Str.reprChar
  simp only []
  have hl : ∀ w : Nat, w ≤ 8 → (List.replicate (w - ((Nat.toDigits 16 c).map Char.toNat).length) 48 ++ (Nat.toDigits 16 c).map Char.toNat).length ≤ 8 := by
    intro w hw
    rw [List.length_append, List.length_replicate, List.length_map]
    omega
  have h2 := hl 2 (by decide)
  have h4 := hl 4 (by decide)
  have h8 := hl 8 (by decide)
  repeat' split
  all_goals first
    | decide
    | (simp only [List.length_cons, List.length_nil]; omega)
    | (rw [List.length_append]; simp only [List.length_cons, List.length_nil]; omega)
theorem reprText_le {x : Str} (h : OkS x) : (reprText x).length ≤ 10 * x.length + 2 := by
  rw [← reprLen_eq, ← Array.foldl_toList]
  have key : ∀ (l : List Nat) (n : Nat), (∀ c ∈ l, c < 1114112) → l.foldl (fun n c => n + (PySem.Builtin.Str.reprChar (reprQuote x) c).length) n ≤ n + 10 * l.length := by
    intro l
    induction l with
    | nil => intro n _; exact Nat.le_refl _
    | cons c r ih =>
      intro n hb
      have h1 := reprChar_le (q := reprQuote x) (hb c (List.mem_cons_self ..))
      have h2 := ih (n + (PySem.Builtin.Str.reprChar (reprQuote x) c).length) fun d hd => hb d (List.mem_cons_of_mem _ hd)
      rw [List.foldl_cons, List.length_cons]
      omega
  have z := key x.cps.toList 2 h
  rw [Array.length_toList] at z
  have e : x.length = x.cps.size := rfl
  omega
mutual
/-- a bound of the shown text -/
def big : PyData → Nat
  | .none => 4
  | .bool _ => 5
  | .int i => (Str.ofString (toString i)).length
  | .str x => 10 * x.length + 2
  | .list xs => bigs xs + 4
  | .tuple xs => bigs xs + 4
  | .dict kvs => bigKv kvs + 4
def bigs : List PyData → Nat
  | [] => 0
  | x :: xs => big x + 2 + bigs xs
def bigKv : List (PyData × PyData) → Nat
  | [] => 0
  | (k, v) :: r => big k + big v + 4 + bigKv r
end
mutual
/-- its texts are of Unicode's signs -/
def OkD : PyData → Prop
  | .none | .bool _ | .int _ => True
  | .str x => OkS x
  | .list xs | .tuple xs => OkDs xs
  | .dict kvs => OkKv kvs
def OkDs : List PyData → Prop
  | [] => True
  | x :: xs => OkD x ∧ OkDs xs
def OkKv : List (PyData × PyData) → Prop
  | [] => True
  | (k, v) :: r => OkD k ∧ OkD v ∧ OkKv r
end
theorem textFrom_le : ∀ (ts : List Str) (k : Nat) (acc : Str), (textFrom k acc ts).length ≤ acc.length + piled ts
  | [], k, acc => by show acc.length ≤ acc.length + piled []; omega
  | t :: r, k, acc => by
    have ih := textFrom_le r (k + 1) (acc ++ (if k > 0 then ", " else "" : String) ++ t)
    show (textFrom (k + 1) (acc ++ (if k > 0 then ", " else "" : String) ++ t) r).length ≤ _
    rw [piled_cons]
    rw [strLen_append, strLen_append] at ih
    have z : (Str.ofString (if k > 0 then ", " else "" : String)).length ≤ 2 := by
      split <;> decide
    omega
theorem join_le (ts : List Str) : (Str.join ", " ts).length ≤ piled ts := by
  by_cases h : ts = []
  · subst h
    exact Nat.zero_le _
  · have := join_length_add ts h
    omega
mutual
theorem shown_le : ∀ d : PyData, OkD d → d.shown.length ≤ big d
  | .none, _ => by
    simp only [PyData.shown, big]
    decide
  | .bool b, _ => by
    simp only [PyData.shown, big]
    cases b <;> decide
  | .int i, _ => by
    simp only [PyData.shown, big]
    exact Nat.le_refl _
  | .str x, h => by
    simp only [PyData.shown, big]
    exact reprText_le (by simpa only [OkD] using h)
  | .list xs, h => by
    simp only [PyData.shown, big]
    have z := shownAll_le xs (by simpa only [OkD] using h)
    have y := textFrom_le (PyData.shownAll xs) 0 "["
    unfold listText
    rw [strLen_append]
    have e1 : ("[" : Str).length = 1 := rfl
    have e2 : ("]" : Str).length = 1 := rfl
    omega
  | .tuple xs, h => by
    simp only [PyData.shown, big]
    have z := shownAll_le xs (by simpa only [OkD] using h)
    have y := join_le (PyData.shownAll xs)
    unfold tupleText
    rw [strLen_append, strLen_append]
    have e1 : ("(" : Str).length = 1 := rfl
    have e2 : (Str.ofString (if (PyData.shownAll xs).length == 1 then ",)" else ")" : String)).length ≤ 2 := by split <;> decide
    omega
  | .dict kvs, h => by
    simp only [PyData.shown, big]
    have z := shownKv_le kvs (by simpa only [OkD] using h)
    have y := join_le (PyData.shownKv kvs)
    unfold dictText
    rw [strLen_append, strLen_append]
    have e1 : ("{" : Str).length = 1 := rfl
    have e2 : ("}" : Str).length = 1 := rfl
    omega
theorem shownAll_le : ∀ ds : List PyData, OkDs ds → piled (PyData.shownAll ds) ≤ bigs ds
  | [], _ => by
    simp only [PyData.shownAll, bigs]
    exact Nat.le_refl _
  | x :: xs, h => by
    simp only [OkDs] at h
    simp only [PyData.shownAll, bigs]
    rw [piled_cons]
    have a := shown_le x h.1
    have b := shownAll_le xs h.2
    omega
theorem shownKv_le : ∀ ds : List (PyData × PyData), OkKv ds → piled (PyData.shownKv ds) ≤ bigKv ds
  | [], _ => by
    simp only [PyData.shownKv, bigKv]
    exact Nat.le_refl _
  | (k, v) :: r, h => by
    simp only [OkKv] at h
    simp only [PyData.shownKv, bigKv]
    rw [piled_cons, strLen_append, strLen_append]
    have a := shown_le k h.1
    have b := shown_le v h.2.1
    have c := shownKv_le r h.2.2
    have e : (": " : Str).length = 2 := rfl
    omega
end
theorem big_int {i : Int} {k : Nat} (hk : 0 < k) (h : i.natAbs < 10 ^ k) : big (.int i) ≤ k + 1 := by
  show (Str.ofString (toString i)).length ≤ k + 1
  rw [PySem.ofString_length]
  exact int_text_length_le10 hk h
end G

set_option Elab.async false
set_option linter.all false
set_option maxRecDepth 100000
set_option maxHeartbeats 4000000
/-! Data kept; repr of it; calls of defs whose promise asks that no guard stands around. -/
namespace G
open PySem PySem.Spec PyProof.Rows L2
theorem Kp.sqt {K : PySem.W.Frag} {S : List Addr} {a : Addr} {H H' : Hp} {xs : List V} (k : Kp S H H') (d : a ∉ S) (h : SqT K H a xs) : SqT K H' a xs := by
  rcases h with (h | ⟨o, h⟩) | h
  · exact .inl (.inl (k _ _ d h))
  · exact .inl (.inr ⟨o, k _ _ d h⟩)
  · exact .inr h
theorem Same.sqt {K : PySem.W.Frag} {a : Addr} {H H' : Hp} {xs : List V} (k : Same H H') (h : SqT K H a xs) : SqT K H' a xs := (Kp.same (S := []) k).sqt (fun z => nomatch z) h
mutual
theorem Dp.keep {K : PySem.W.Frag} {H H' : Hp} (k : Same H H') : ∀ (d : PyData) (v : V), Dp K H v d → Dp K H' v d
  | .none, _, h => by cases h; exact .non
  | .bool b, _, h => by cases h; exact .bl b
  | .int i, _, h => by cases h; exact .int i
  | .str x, _, h => by cases h; exact .str x
  | .list ds, _, h => by
    cases h with
    | lst h1 h2 => exact .lst (k.seq h1) (Dp.keeps k ds _ h2)
  | .tuple ds, _, h => by
    cases h with
    | tup h1 h2 => exact .tup (Same.sqt k h1) (Dp.keeps k ds _ h2)
  | .dict _, _, h => nomatch h
theorem Dp.keeps {K : PySem.W.Frag} {H H' : Hp} (k : Same H H') : ∀ (ds : List PyData) (vs : List V), DpAll K H vs ds → DpAll K H' vs ds
  | [], _, h => by cases h; exact .nil
  | d :: ds, _, h => by
    cases h with
    | cons h1 h2 => exact .cons (Dp.keep k d _ h1) (Dp.keeps k ds _ h2)
end
/-- what v shows when it is printed: data, or a small dict -/
def Shows (K : PySem.W.Frag) (H : Hp) (v : V) (d : PyData) : Prop := (Dp K H v d ∧ d.hasDict = false) ∨ (∃ a, v = .ref a ∧ H a = some (.dK []) ∧ d = .dict []) ∨
  ∃ (a : Addr) (x : Str) (i : Int), v = .ref a ∧ H a = some (.dK [(.inr x, .int i)]) ∧ d = .dict [(.str x, .int i)]
theorem Shows.keep {K : PySem.W.Frag} {H H' : Hp} {v : V} {d : PyData} (h : Shows K H v d) (k : Same H H') : Shows K H' v d := by
  rcases h with ⟨h, n⟩ | ⟨a, e, h, n⟩ | ⟨a, x, i, e, h, n⟩
  · exact .inl ⟨Dp.keep k d v h, n⟩
  · exact .inr (.inl ⟨a, e, k _ _ h, n⟩)
  · exact .inr (.inr ⟨a, x, i, e, k _ _ h, n⟩)
def rShow (K : PySem.W.Frag) : List V → Hp → VK → Prop := fun vs H Q => ∃ (v : V) (d : PyData), vs = [v] ∧ Shows K H v d ∧ d.showable = true ∧ OkD d ∧ d.depth ≤ 100 ∧ big d ≤ 1000000 ∧ Q (.str d.shown) H
theorem call_show {X : Cx} (hg : X.A.guards = some []) (hu : X.A.units + 101 < cLine) : CallR X (.builtin "repr") (rShow X.K) := by
  intro pins s σ H vs us Q I r h
  obtain ⟨v, d, rfl, hd, hs, ok, hdep, hb, q⟩ := h
  have hz : d.shown.length ≤ sizeLine := Nat.le_trans (shown_le d ok) (by rw [sizeLine_eq]; omega)
  have dict : ∀ (a : Addr) (kvs : List (Key × V)) (ds : List (PyData × PyData)), v = .ref a → H a = some (.dK kvs) → d = .dict ds →
      (∀ vs es, KV kvs vs → Pairs (mixKind X.prog X.w) es vs → ∃ as bs, ReadsAll s.heap (es.map (·.key)) (ds.map (·.1)) as ∧ ReadsAll s.heap (es.map (·.val)) (ds.map (·.2)) bs ∧ as = [] ∧ bs = []) →
      wpAny (model X.prog X.w) X.A (call (.builtin "repr") us) (EP X pins σ Q) X.xe s := by
    rintro a kvs ds rfl ha rfl hall
    obtain ⟨u, rfl, rv⟩ := vals1 r
    obtain rfl : u = Value.ref a := rv
    obtain ⟨_, hsm, ws, hkv, o, es, ep, ho, hex, hdt, _, hp, _⟩ := (show ObjOk X.prog X.w H s.heap a (.dK kvs) from I.hok a _ ha)
    obtain ⟨as, bs, r1, r2, e1, e2⟩ := hall ws es.toList hkv hp
    subst e1 e2
    refine repr_of_reads' (Reads.dict ho hex.1 hdt r1 r2) hs (fun _ hm => ?_) hg (by omega) (fun _ _ e => e) (fun h' t tk hk => ⟨.str _, H, I.kept hk, ⟨_, rfl⟩, q⟩) hz
    rw [List.append_nil, List.mem_singleton] at hm
    rw [hm] at hsm
    simp at hsm
  rcases hd with ⟨hd, hn⟩ | ⟨a, ev, ha, ed⟩ | ⟨a, x, i, ev, ha, ed⟩
  · exact call_reprD hg hu pins s σ H _ us Q I r ⟨v, d, rfl, hd, hs, hn, hdep, hz, q⟩
  · refine dict a [] [] ev ha ed fun vs es hkv hp => ?_
    cases hkv
    cases hp
    exact ⟨[], [], .nil, .nil, rfl, rfl⟩
  · refine dict a _ _ ev ha ed fun vs es hkv hp => ?_
    cases hkv with
    | @cons _ b _ l2 h1 h2 =>
      cases h2
      obtain ⟨k1, v1⟩ := b
      obtain ⟨e1, e2⟩ := h1
      obtain ⟨t, e2⟩ := e2
      dsimp only at e1 e2
      subst e1 e2
      cases hp with
      | @cons e kv es kvs h3 h4 h5 =>
        cases h5
        rcases keyIs_shape (k := Sum.inr x) (v := e.key) h3 with ⟨j, t2, z, _⟩ | ⟨y, t2, z, e3⟩
        · cases z
        cases z
        refine ⟨[], [], ?_, ?_, rfl, rfl⟩
        · show ReadsAll s.heap [e.key] [.str x] []
          rw [e3]
          exact .cons (as := []) (bs := []) (.str x t2) .nil
        · show ReadsAll s.heap [e.val] [.int i] []
          rw [h4]
          exact .cons (as := []) (bs := []) (.int i t) .nil
/-! ### calls where no guard stands around -/
def tCallG (sp : Sp) (t : TA) : TE := fun σ H Q => t σ H fun vs H1 => sp vs H1 Q E0
section
variable {X : Cx} {k : Nat} {f : Addr} {fd : FuncData} {ps : List Str} {sp : Sp} {x : Str} {p pos : Pos} {e : Expr} {es : List Expr} {t : TA}
theorem run_G {pins : List (Addr × Obj)} {σ : L2.St} {H : Hp} {s : Shared} {Q : VK} {us : List Value} {vs : List V} (F : FnOkG X.prog X.w X.K X.mg X.base k f fd ps sp) (gu : X.A.guards = some []) (hr : Room k X.A) (hb : Binds X.K fd ps [])
    (I : Inv X pins σ H s) (r : Vals vs us) (h : sp vs H Q E0) : wpAny (model X.prog X.w) X.A (call (.ref f) us) (EP X pins σ Q) X.xe s := by
  have hl : us.length = ps.length := r.length.symm.trans (F.len _ _ _ _ h)
  have b := hb s us I.kIn (by rw [List.append_nil]; exact hl)
  rw [List.append_nil] at b
  refine wpAny_call (codeAny_mono (F.run X.A X.stack s H ⟨us, []⟩ us vs Q E0 gu hr I.env0 b r h) fun r s' hq => ?_)
  match r, hq with
  | .error e, hq => exact False.elim hq
  | .ok (.ret u), hq => exact I.after hq
  | .ok .next, hq => exact False.elim hq
  | .ok .brk, hq => exact False.elim hq
  | .ok .cont, hq => exact False.elim hq
theorem pe_callG (F : FnOkG X.prog X.w X.K X.mg X.base k f fd ps sp) (gu : X.A.guards = some []) (hr : Room k X.A) (hg : Gl X x) (hm : X.mg x = some (.ref f)) (hk : PySem.W.keepIn X.K (.ref f) = true) (hb : Binds X.K fd ps [])
    (ha : PA X (e :: es) t) (hdb : (x == ("__debug__" : Str)) = false := by decide) (he : starEach (e :: es) X.env = (false, eval e X.env) :: starEach es X.env := by rfl) (hpl : (backTo pos (starEach es X.env)).any (·.1) = false := by rfl) :
    PE X (.Call (.Name x p) (e :: es) [] pos) (tCallG sp t) := by
  refine ⟨fun pins s σ H Q I h => wpAny_Call_Name_kw (ld_glob I hg hm ?_ hdb)⟩
  exact PySem.W.callWith_K (h₀ := X.base) I.ok.mod.kin hk (thn (ha.run pos pins s σ H _ I h) fun us s1 ⟨vs, H1, I1, r, q⟩ => ⟨I1.kIn, run_G F gu hr hb I1 r q⟩) he hpl
end
end G

set_option Elab.async false
set_option linter.all false
set_option maxRecDepth 100000
set_option maxHeartbeats 4000000
/-! What is printed is of Unicode's signs, too. -/
namespace G
open PySem PySem.Spec PyProof.Rows L2
theorem char_lt (d : Char) : d.toNat < 1114112 := by
  have h := d.valid
  have z : d.toNat = d.val.toNat := rfl
  rw [z]
  rcases h with h | ⟨_, h⟩
  · exact Nat.lt_trans h (by decide)
  · exact h
theorem reprChar_ok {q c x : Nat} (hq : q < 1114112) (hc : c < 1114112) (h : x ∈ PySem.Builtin.Str.reprChar q c) : x < 1114112 := by
  have hex : ∀ w : Nat, x ∈ List.replicate (w - ((Nat.toDigits 16 c).map Char.toNat).length) 48 ++ (Nat.toDigits 16 c).map Char.toNat → x < 1114112 := by
    intro w hw
    rcases List.mem_append.mp hw with hw | hw
    · rw [(List.mem_replicate.mp hw).2]
      decide
    · obtain ⟨d, _, rfl⟩ := List.mem_map.mp hw
      exact char_lt d
  unfold PySem.Builtin.Str.reprChar at h
  simp only [] at h
  have two : ∀ a b : Nat, a < 1114112 → b < 1114112 → x ∈ [a, b] → x < 1114112 := by
    intro a b ha hb hm
    simp only [List.mem_cons, List.not_mem_nil, or_false] at hm
    rcases hm with rfl | rfl <;> assumption
  split at h
  · exact two _ _ (by decide) hc h
  split at h
  · exact two _ _ (by decide) (by decide) h
  split at h
  · exact two _ _ (by decide) (by decide) h
  split at h
  · exact two _ _ (by decide) (by decide) h
  split at h
  · rw [List.mem_singleton.mp h]
    exact hc
  split at h
  · rcases List.mem_append.mp h with h | h
    · exact two _ _ (by decide) (by decide) h
    · exact hex _ h
  split at h
  · rcases List.mem_append.mp h with h | h
    · exact two _ _ (by decide) (by decide) h
    · exact hex _ h
  · rcases List.mem_append.mp h with h | h
    · exact two _ _ (by decide) (by decide) h
    · exact hex _ h
theorem reprQuote_lt (x : Str) : reprQuote x < 1114112 := by
  unfold reprQuote
  split <;> decide
theorem reprText_ok {x : Str} (h : OkS x) : OkS (reprText x) := by
  have key : ∀ (l : List Nat) (acc : Array Nat), (∀ c ∈ l, c < 1114112) → (∀ c ∈ acc.toList, c < 1114112) →
      ∀ c ∈ (l.foldl (fun out c => out ++ (PySem.Builtin.Str.reprChar (reprQuote x) c).toArray) acc).toList, c < 1114112 := by
    intro l
    induction l with
    | nil => intro acc _ ha; exact ha
    | cons c r ih =>
      intro acc hl ha
      refine ih _ (fun d hd => hl d (List.mem_cons_of_mem _ hd)) fun d hd => ?_
      rw [Array.toList_append] at hd
      rcases List.mem_append.mp hd with hd | hd
      · exact ha d hd
      · exact reprChar_ok (reprQuote_lt x) (hl c (List.mem_cons_self ..)) (by simpa using hd)
  intro c hc
  unfold reprText at hc
  dsimp only at hc
  rw [Array.toList_push, ← Array.foldl_toList] at hc
  rcases List.mem_append.mp hc with hc | hc
  · exact key x.cps.toList #[reprQuote x] h (fun d hd => by
      have e : d = reprQuote x := by simpa using hd
      rw [e]
      exact reprQuote_lt x) c hc
  · rw [List.mem_singleton.mp hc]
    exact reprQuote_lt x
theorem textFrom_ok : ∀ (ts : List Str) (k : Nat) (acc : Str), OkS acc → (∀ t ∈ ts, OkS t) → OkS (textFrom k acc ts)
  | [], k, acc, h, _ => h
  | t :: r, k, acc, h, hr => textFrom_ok r (k + 1) _ ((h.app (OkS.of _)).app (hr t (List.mem_cons_self ..))) fun u hu => hr u (List.mem_cons_of_mem _ hu)
theorem join_ok : ∀ (ts : List Str), (∀ t ∈ ts, OkS t) → OkS (Str.join ", " ts)
  | [], _ => OkS.of ""
  | [x], h => h x (List.mem_cons_self ..)
  | x :: y :: r, h => ((h x (List.mem_cons_self ..)).app (OkS.of ", ")).app (join_ok (y :: r) fun u hu => h u (List.mem_cons_of_mem _ hu))
mutual
theorem shown_ok : ∀ d : PyData, OkD d → OkS d.shown
  | .none, _ => by
    simp only [PyData.shown]
    exact OkS.of _
  | .bool b, _ => by
    simp only [PyData.shown]
    cases b <;> exact OkS.of _
  | .int i, _ => by
    simp only [PyData.shown]
    exact OkS.of _
  | .str x, h => by
    simp only [PyData.shown]
    exact reprText_ok (by simpa only [OkD] using h)
  | .list xs, h => by
    simp only [PyData.shown]
    exact (textFrom_ok _ _ _ (OkS.of _) (shownAll_ok xs (by simpa only [OkD] using h))).app (OkS.of _)
  | .tuple xs, h => by
    simp only [PyData.shown]
    exact ((OkS.of _).app (join_ok _ (shownAll_ok xs (by simpa only [OkD] using h)))).app (OkS.of _)
  | .dict kvs, h => by
    simp only [PyData.shown]
    exact ((OkS.of _).app (join_ok _ (shownKv_ok kvs (by simpa only [OkD] using h)))).app (OkS.of _)
theorem shownAll_ok : ∀ ds : List PyData, OkDs ds → ∀ t ∈ PyData.shownAll ds, OkS t
  | [], _, t, h => by simp [PyData.shownAll] at h
  | x :: xs, h, t, ht => by
    simp only [OkDs] at h
    simp only [PyData.shownAll, List.mem_cons] at ht
    rcases ht with rfl | ht
    · exact shown_ok x h.1
    · exact shownAll_ok xs h.2 t ht
theorem shownKv_ok : ∀ ds : List (PyData × PyData), OkKv ds → ∀ t ∈ PyData.shownKv ds, OkS t
  | [], _, t, h => by simp [PyData.shownKv] at h
  | (k, v) :: r, h, t, ht => by
    simp only [OkKv] at h
    simp only [PyData.shownKv, List.mem_cons] at ht
    rcases ht with rfl | ht
    · exact ((shown_ok k h.1).app (OkS.of _)).app (shown_ok v h.2.1)
    · exact shownKv_ok r h.2.2 t ht
end
theorem OkS.ok {x : Str} (h : OkS x) : PyData.strOk x = true := by
  unfold PyData.strOk
  rw [← Array.all_toList, List.all_eq_true]
  intro c hc
  exact decide_eq_true (h c hc)
end G

set_option Elab.async false
set_option linter.all false
set_option maxRecDepth 100000
set_option maxHeartbeats 4000000
/-! Errors as values: made, their fields read, asked by isinstance. -/
namespace G
open PySem PySem.Spec PyProof.Rows L2
/-- the error at a, of the class at C, with these fields -/
def Er (H : Hp) (a C : Addr) (fs : List (Str × V)) : Prop := (H a = some (exo a C none) ∧ fs = []) ∨ ∃ dx, H a = some (exo a C (some dx)) ∧ H dx = some (exd dx fs)
theorem Er.same {H H' : Hp} {a C : Addr} {fs : List (Str × V)} (e : Er H a C fs) (s : Same H H') : Er H' a C fs := by
  rcases e with ⟨h, f⟩ | ⟨dx, h, f⟩
  · exact .inl ⟨s _ _ h, f⟩
  · exact .inr ⟨dx, s _ _ h, s _ _ f⟩
/-- what a class of errors must say, by one test -/
def ecB (K : PySem.W.Frag) (C : Addr) : Bool :=
  PySem.W.findIn K (.ref C) "__setattr__" == some (some (.builtin "object.__setattr__")) && PySem.W.hasDictIn K C &&
  PySem.W.findIn K (.ref C) "__getattribute__" == some (some (.builtin "BaseException.__getattribute__")) && PySem.W.findIn K (.ref C) "__getattr__" == some none &&
  PySem.W.subIn K (.ref C) (.type "BaseException") == some true && PySem.W.findIn K (.ref C) "__class__" == some (some (.builtin "object.__class__")) &&
  PySem.W.mroIn K C (.type "object") == some true && PySem.W.keepIn K (.ref C) &&
  PySem.W.specialIn K (.builtin "object.__class__") "__get__" == some (some (.builtin "getset_descriptor.__get__")) && PySem.W.takesIn K (.builtin "object.__class__") == some true
structure EC (K : PySem.W.Frag) (C : Addr) : Prop where
  sa : PySem.W.findIn K (.ref C) "__setattr__" = some (some (.builtin "object.__setattr__"))
  hd : PySem.W.hasDictIn K C = true
  ga : PySem.W.findIn K (.ref C) "__getattribute__" = some (some (.builtin "BaseException.__getattribute__"))
  gt : PySem.W.findIn K (.ref C) "__getattr__" = some none
  sb : PySem.W.subIn K (.ref C) (.type "BaseException") = some true
  ca : PySem.W.findIn K (.ref C) "__class__" = some (some (.builtin "object.__class__"))
  mo : PySem.W.mroIn K C (.type "object") = some true
  kp : PySem.W.keepIn K (.ref C) = true
  cg : PySem.W.specialIn K (.builtin "object.__class__") "__get__" = some (some (.builtin "getset_descriptor.__get__"))
  ct : PySem.W.takesIn K (.builtin "object.__class__") = some true
theorem EC.of {K : PySem.W.Frag} {C : Addr} (h : ecB K C = true) : EC K C := by
  unfold ecB at h
  simp only [Bool.and_eq_true, beq_iff_eq] at h
  obtain ⟨⟨⟨⟨⟨⟨⟨⟨⟨a, b⟩, c⟩, d⟩, e⟩, f⟩, g⟩, i⟩, j⟩, k⟩ := h
  exact ⟨a, b, c, d, e, f, g, i, j, k⟩
theorem EC.cl {K : PySem.W.Frag} {C : Addr} (h : EC K C) : (PySem.W.clsIn K C).isSome = true := by
  obtain ⟨cd, hc, _⟩ := PySem.W.any_some h.hd
  rw [hc]
  rfl
/-- a built-in base: its facts for making, and for a field's store -/
structure BaseF (B newId initId : String) (bm : List Value) : Prop where
  ba : ExcBaseFacts B newId initId bm
  st : StoreFacts B bm "object.__setattr__" "object"
theorem baseVE : BaseF "ValueError" "ValueError.__new__" "ValueError.__init__" [.type "ValueError", .type "Exception", .type "BaseException", .type "object"] := ⟨F.excBase_ValueError, F.store_ValueError⟩
theorem baseLE : BaseF "LookupError" "LookupError.__new__" "LookupError.__init__" [.type "LookupError", .type "Exception", .type "BaseException", .type "object"] := ⟨F.excBase_LookupError, F.store_LookupError⟩
theorem baseEx : BaseF "Exception" "Exception.__new__" "Exception.__init__" [.type "Exception", .type "BaseException", .type "object"] := ⟨F.excBase_Exception, F.store_Exception⟩

/-! ### a field's store -/
section
variable {prog : Program} {w : World} {A : Around} {R : Result → Shared → Prop} {hp : Heap} {g : Array GenState} {d : Drawn} {t : Nat} {os : OsState}
/-- the first field of an error: its dict is made -/
theorem osa_first {B : String} {bm : List Value} {K : PySem.W.Frag} {name : Str} {tk : Tok} {v : Value} {x C t1 : Addr} (SF : StoreFacts B bm "object.__setattr__" "object") (X : K.In hp) (hx : hp.get? x = some (PySem.HandSPX.excO C t1))
    (ov : PySem.W.excOver K C bm = true) (ht : PySem.W.takerIn K C name = some none) (hh : PySem.W.hasDictIn K C = true)
    (hq : ∀ h' tk' dx, (∀ b o, b ≠ x → hp.get? b = some o → h'.get? b = some o) → hp.objs.size ≤ dx → dx ≠ x → h'.get? x = some { PySem.HandSPX.excO C t1 with dict := some dx } →
      h'.Ns1 dx (fun y => if y = name then some v else none) → R (.ok (.ret .none)) ⟨h', g, d, tk', os⟩) :
    codeAny (model prog w) A (.call (.builtin "object.__setattr__") ⟨[.ref x, .str name tk, v], []⟩) R ⟨hp, g, d, t, os⟩ := by
  have ne : x ≠ hp.objs.size := Nat.ne_of_lt (Heap.lt_size hx)
  refine PySem.W.osa_openX (od := none) (s := ⟨hp, g, d, t, os⟩) SF X ⟨hx, rfl, rfl, trivial⟩ ov ht fun b => ?_
  obtain ⟨cd, hc, hd'⟩ := PySem.W.any_some hh
  have L := PySem.W.looks_clsIn (M := model prog w) X hc
  refine wpAny_bind (wpAny_pure (wpAny_bind (PySem.W.instanceDict_exc (s := ⟨hp, g, d, t, os⟩) hx L hd' ?_)))
  refine PySem.HandSPX.store_in_new ?_ fun h' tk' hn hs => ?_
  · exact ⟨_, #[], _, (Heap.get?_update_ne _ _ _ _ ne.symm).trans (Heap.get?_push_at rfl rfl), rfl, fun e he => absurd he (by simp), fun _ => rfl⟩
  · have hx1 : (hp.push (PySem.W.dictOf [] 0)).get? x = some (PySem.HandSPX.excO C t1) := Heap.get?_push_of_some _ hx
    refine hq h' tk' hp.objs.size (fun b o hb ho => ?_) (Nat.le_refl _) ne.symm ?_ hn
    · refine (hs.2 b (Nat.ne_of_lt (Heap.lt_size ho))).trans ?_
      exact (Heap.get?_update_ne _ _ _ _ hb).trans (Heap.get?_push_of_some _ ho)
    · exact (hs.2 x ne).trans (Heap.get?_update_self _ hx1 rfl)
end
/-- at the class C a field may be stored on an error without a dict -/
structure ES (K : PySem.W.Frag) (C : Addr) (f : Str) : Prop where
  b : ∃ B newId initId bm, BaseF B newId initId bm ∧ PySem.W.excOver K C bm = true
  c : EC K C
  t : PySem.W.takerIn K C f = some none
section
variable {X : Cx} {pins : List (Addr × Obj)} {σ : L2.St} {H : Hp} {s : Shared} {a C : Addr} {f : Str} {y : V} {u : Value} {Q : Unit → Shared → Prop} {E : Value → Shared → Prop} {A : Around}
theorem os_first (T : ES X.K C f) (I : Inv X pins σ H s) (e : H a = some (exo a C none)) (ry : RelV y u)
    (h : ∀ dx s', H dx = none → dx ≠ a → Inv X pins σ (upd (upd H dx (exd dx [(f, y)])) a (exo a C (some dx))) s' → Q () s') : wpAny (model X.prog X.w) A (setAttr (.ref a) f u) Q E s := by
  obtain ⟨B, _, _, bm, BF, ov⟩ := T.b
  obtain ⟨t1, ho⟩ := exo_at I.hok e
  obtain ⟨hp, g, d, t, os⟩ := s
  refine PySem.W.set_plain I.kIn (ox := PySem.HandSPX.excO C t1) (od := none) ⟨ho, rfl, rfl, trivial⟩ T.c.sa ?_
  refine osa_first BF.st I.kIn ho ov T.t T.c.hd fun h' tk' dx k dn dne hx hn => ?_
  have nH : H dx = none := I.hok.fresh dn
  have old : ∀ {b : Addr} {o : Obj}, hp.get? b = some o → b ≠ dx := fun q z => Nat.lt_irrefl _ (Nat.lt_of_lt_of_le (z ▸ Heap.lt_size q) dn)
  have una : ∀ {b : Addr}, H b = none → b ≠ a := fun n z => by rw [z, e] at n; cases n
  have same : ∀ {b : Addr}, b ≠ a → b ≠ dx → upd (upd H dx (exd dx [(f, y)])) a (exo a C (some dx)) b = H b := fun h1 h2 => by rw [upd_ne h1, upd_ne h2]
  have U : Un X.fs [] H (upd (upd H dx (exd dx [(f, y)])) a (exo a C (some dx))) hp h' :=
    { keep := fun b o q n _ _ => k b o (una n) q
      slot := fun b o q n _ _ => ⟨_, k b o (una n) q⟩
      free := fun b o q n _ => (same (una n) (old q)).trans n
      there := fun b o q _ => if hb : b = a then ⟨_, hb ▸ hx⟩ else ⟨o, k b o hb q⟩
      tups := fun b xs q => (same (at_ne e q exo_tup) (ne_of_none q nH)).trans q
      frzs := fun b o v q => (same (at_ne e q exo_frz) (ne_of_none q nH)).trans q
      tbls := fun b ps q => ⟨#[], by rw [same (at_ne e q exo_tbl) (ne_of_none q nH), q]; simp⟩ }
  refine h dx _ nH dne (I.un (t' := tk') U fun b o q => ?_)
  by_cases hb : b = a
  · subst hb
    rw [upd_same] at q
    cases q
    exact exo_ok hx
  by_cases hd : b = dx
  · subst hd
    rw [upd_ne hb, upd_same] at q
    cases q
    exact exd_ok hn (relO_put (fs := []) ry fun _ => True.intro)
  rw [same hb hd] at q
  refine (I.hok b o q).stay (fun c v hc z => k c v ?_ z) (fun c hc => (same (at_ne e hc exo_own) (ne_of_none hc nH)).trans hc) fun c xs hc => (same (at_ne e hc exo_tup) (ne_of_none hc nH)).trans hc
  rcases hc with rfl | hc
  · exact hb
  · exact at_ne e hc exo_own
end
/-- o.f = e, o an error without fields -/
def tOs1 (K : PySem.W.Frag) (f : Str) (to te : TE) : TS := fun D σ H => te σ H fun y H1 => to σ H1 fun x H2 => ∃ a C : Addr, x = .ref a ∧ ES K C f ∧ H2 a = some (exo a C none) ∧ ∀ dx, H2 dx = none → dx ≠ a → D.nx σ (upd (upd H2 dx (exd dx [(f, y)])) a (exo a C (some dx)))
section
variable {X : Cx} {o e : Expr} {es : List Expr} {to te : TE} {ta : TA} {f : Str} {p p' pos : Pos}
theorem ps_os1 (ho : PE X o to) (he : PE X e te) (hs : swapsWith e (some (.Attribute o f p')) pos.line X.env = pure false := by rfl) : PS X (.Assign [.Attribute o f p'] e pos) (tOs1 X.K f to te) := by
  refine ⟨fun pins s σ H D I h => plainObj_wpAny_Assign_Attribute (thn (he.run pins s σ H _ I h) fun v s1 ⟨y, H1, I1, r1, q1⟩ => thn (ho.run pins s1 σ H1 _ I1 q1) fun u s2 ⟨x, H2, I2, r2, a, C, ex, T, ea, q⟩ => ?_) hs⟩
  subst ex
  obtain rfl : u = Value.ref a := r2
  exact os_first T I2 ea r1 fun dx s' n ne J => ⟨σ, _, J, q dx n ne⟩
/-! ### C(e, ..) -/
/-- the class is one with an own __init__ at fI -/
structure EM (K : PySem.W.Frag) (C fI : Addr) : Prop where
  b : ∃ B newId initId bm, BaseF B newId initId bm ∧ PySem.W.excInitIn K C bm newId = true
  kp : PySem.W.keepIn K (.ref C) = true
  i : PySem.W.findIn K (.ref C) "__init__" = some (some (.ref fI))
  t : PySem.W.typeIn K (.ref fI) = some (.type "function")
def tMkE (C : Addr) (sp : Sp) (ta : TA) : TE := fun σ H Q => ta σ H fun vs H1 => vs.length ≤ 1000 ∧ ∀ a, H1 a = none → sp (.ref a :: vs) (upd H1 a (exo a C none)) (fun v H2 => v = .non ∧ Q (.ref a) H2) (fun _ _ _ => False)
theorem pe_mkE {CX : CXT} {x : Str} {C fI : Addr} {k : Nat} {fd : FuncData} {ps : List Str} {sp : Sp} (M : EM X.K C fI) (F1 : FnOk X.prog X.w X.K X.mg X.base CX k fI fd ps sp) (hr : Room (k + 1) X.A) (hb : Binds X.K fd ps []) (hx : Passes CX X (fun _ _ _ => False))
    (hg : Gl X x) (hm : X.mg x = some (.ref C)) (ha : PA X (e :: es) ta)
    (hdb : (x == ("__debug__" : Str)) = false := by decide) (he : starEach (e :: es) X.env = (false, eval e X.env) :: starEach es X.env := by rfl) (hpl : (backTo pos (starEach es X.env)).any (·.1) = false := by rfl) :
    PE X (.Call (.Name x p) (e :: es) [] pos) (tMkE C sp ta) := by
  refine ⟨fun pins s σ H Q I h => ?_⟩
  obtain ⟨B, newId, initId, bm, BF, q⟩ := M.b
  refine wpAny_Call_Name_kw (ld_glob I hg hm ?_ hdb)
  refine PySem.W.callWith_K (h₀ := X.base) I.ok.mod.kin M.kp (thn (ha.run pos pins s σ H _ I h) fun us s1 ⟨vs, H1, I1, r1, hz, q1⟩ => ⟨I1.kIn, ?_⟩) he hpl
  obtain ⟨nm, N, qn, bs, bm', hdct, sn, sub, ab, col, dd, k0, k1, k2, k3, k5, hC, hT⟩ := PySem.W.excInit_of I1.kIn q
  obtain ⟨hp, g, dr, tk, os⟩ := s1
  have hsz : hp.objs.size ≤ hp.objs.size + 1 := Nat.le_succ _
  have hq := q1 (hp.objs.size + 1) (I1.hok.fresh hsz)
  have I2 : Inv X pins σ (upd H1 (hp.objs.size + 1) (exo (hp.objs.size + 1) C none)) ⟨(hp.push (PySem.W.kdv_tup us)).push (PySem.HandSPX.excO C hp.objs.size), g, dr, tk, os⟩ :=
    I1.laid (t' := tk) (a := hp.objs.size + 1) (fun b o z => Heap.get?_push_of_some _ (Heap.get?_push_of_some _ z)) hsz (exo_ok (by heap_get))
  have r2 : Vals (V.ref (hp.objs.size + 1) :: vs) (Value.ref (hp.objs.size + 1) :: us) := .cons rfl r1
  have hl : (Value.ref (hp.objs.size + 1) :: us).length = ps.length := r2.length.symm.trans (F1.len _ _ _ _ hq)
  have hus : us.length ≤ sizeLine := by rw [← r1.length]; exact line1000 hz
  have hbb := hb _ (Value.ref (hp.objs.size + 1) :: us) I2.kIn (by rw [List.append_nil]; exact hl)
  rw [List.append_nil] at hbb
  show wpAny _ _ (call (.ref C) us) _ _ _
  refine wpAny_call (PySem.HandSPX.call_own BF.ba hT hC (PySem.W.looks_findIn I1.kIn M.i) (fun self => PySem.W.bind_fn I1.kIn self M.t) hus
    (codeAny_mono (F1.run _ X.stack _ _ ⟨Value.ref (hp.objs.size + 1) :: us, []⟩ (Value.ref (hp.objs.size + 1) :: us) _ _ (fun _ _ _ => False) (hr.make C us []) (I2.env0.make C us []) hbb r2 hq) fun r s' hq' => ?_))
  match r, hq' with
  | .error er, hq' => exact hx pins σ _ _ er s' I2 hq'
  | .ok (.ret u), hq' =>
    obtain ⟨v, H', I3, rv, ev, q3⟩ := I2.after hq'
    subst ev
    exact ⟨rv, V.ref (hp.objs.size + 1), H', I3, rfl, q3⟩
  | .ok .next, hq' => exact False.elim hq'
  | .ok .brk, hq' => exact False.elim hq'
  | .ok .cont, hq' => exact False.elim hq'
/-- C(), a class without an own __init__ -/
theorem pe_mkE0 {x : Str} {C : Addr} {B newId initId : String} {bm : List Value} (BF : BaseF B newId initId bm) (q : PySem.W.excIn X.K C bm newId = true) (kC : PySem.W.keepIn X.K (.ref C) = true) (hg : Gl X x) (hm : X.mg x = some (.ref C)) (hdb : (x == ("__debug__" : Str)) = false := by decide) :
    PE X (.Call (.Name x p) [] [] pos) (fun _ H Q => ∀ a, H a = none → Q (.ref a) (upd H a (exo a C none))) := by
  refine ⟨fun pins s σ H Q I h => wpAny_Call_Name_kw (ld_glob I hg hm ?_ hdb)⟩
  refine PySem.W.callWith_K0 I.kIn kC ?_
  obtain ⟨bm', N, nm, qn, bs, hdct, sn, sub, ab, col, dd, k0, k1, k2, k3, k5, mN, hC, hN, hni, T⟩ := exc_obj I.kIn q
  obtain ⟨hp, g, dr, tk, os⟩ := s
  refine wpAny_call_exc_subT BF.ba T hC hN hni (fun h' a hm => ?_) (Nat.zero_le _)
  obtain ⟨t1, ht, _, _⟩ := hm.there
  have hn : H a = none := I.hok.gone hm.new
  exact ⟨.ref a, upd H a (exo a C none), I.laidN hm.keeps hm.new hn (exo_ok ht), rfl, h a hn⟩
/-! ### a field of an error -/
def tErF (K : PySem.W.Frag) (f : Str) (to : TE) : TE := fun σ H Q => to σ H fun x H1 => ∃ (a C : Addr) (fs : List (Str × V)) (v : V), x = .ref a ∧ Er H1 a C fs ∧ EC K C ∧ PySem.W.findIn K (.ref C) f = some none ∧ fs.lookup f = some v ∧ Q v H1
theorem pe_erF (ho : PE X o to) (hb : attributeBase o f X.env (eval o X.env) = eval o X.env := by rfl) : PE X (.Attribute o f pos) (tErF X.K f to) := by
  refine ⟨fun pins s σ H Q I h => attr_of hb (thn (ho.run pins s σ H _ I h) fun u s1 ⟨x, H1, I1, rx, a, C, fs, v, ex, er, c, hno, hl, q⟩ => ?_)⟩
  subst ex
  obtain rfl : u = Value.ref a := rx
  rcases er with ⟨_, z⟩ | ⟨dx, ea, ed⟩
  · subst z
    cases hl
  obtain ⟨t1, ho1⟩ := exo_at I1.hok ea
  obtain ⟨mA, hns, rel⟩ := exd_at I1.hok ed
  obtain ⟨od, hod, hl2⟩ := lookIn_ns hns
  obtain ⟨u, hu, ru⟩ := RelO.some_of (v := v) (o := mA f) (by rw [← hl]; exact rel f)
  exact PySem.HandSPX.exc_get I1.kIn (od := some od) ⟨ho1, rfl, rfl, hod⟩ c.ga c.gt c.sb (PySem.W.findObj_own c.hd hno rfl (by rw [hl2, hu])) (handed_of ru) ⟨v, H1, I1.tok _, ru, q⟩
/-! ### isinstance of an error -/
def rIsEr (K : PySem.W.Frag) : List V → Hp → VK → Prop := fun vs H Q => ∃ (a C : Addr) (fs : List (Str × V)) (c : V) (cv : Value) (b : Bool), vs = [.ref a, c] ∧ Er H a C fs ∧ EC K C ∧ ClsV c cv ∧ PySem.W.kitOne K (.ref C) cv = some b ∧ Q (.bl b) H
theorem call_isEr : CallR X (.builtin "isinstance") (rIsEr X.K) := by
  intro pins s σ H vs us Q I r h
  obtain ⟨a, C, fs, c, cv, b, rfl, er, ec, hc, e, q⟩ := h
  obtain ⟨u1, u2, rfl, r1, r2⟩ := vals2 r
  obtain rfl : u1 = Value.ref a := r1
  have e2 := hc.eq r2
  subst e2
  have key : ∀ (ox : Obj) (od : Option Obj), PySem.W.InstAt s.heap a ox C od → wpAny (model X.prog X.w) X.A (call (.builtin "isinstance") [.ref a, u2]) (EP X pins σ Q) X.xe s := fun ox od J =>
    PySem.W.kia_one (PySem.W.kitx_exc (ox := ox) (od := od) ec.cl ec.ga ec.gt ec.sb ec.ca ec.cg ec.ct ec.mo) I.kIn J e (fun z => nomatch z) fun tk => ⟨.bl b, H, I.tok tk, rfl, q⟩
  rcases er with ⟨ea, _⟩ | ⟨dx, ea, ed⟩
  · obtain ⟨t1, ho1⟩ := exo_at I.hok ea
    exact key _ none ⟨ho1, rfl, rfl, trivial⟩
  · obtain ⟨t1, ho1⟩ := exo_at I.hok ea
    obtain ⟨mA, hns, rel⟩ := exd_at I.hok ed
    obtain ⟨od, hod, _⟩ := lookIn_ns hns
    exact key _ (some od) ⟨ho1, rfl, rfl, hod⟩
end
end G

set_option Elab.async false
set_option linter.all false
set_option maxRecDepth 100000
set_option maxHeartbeats 4000000
/-! An own error's __init__ that stores one field. -/
namespace G
open PySem PySem.Spec PyProof.Rows L2
/-- self.f = f -/
def spI1 (K : PySem.W.Frag) (f : Str) : Sp := fun vs H Q _ => ∃ (a C : Addr) (v : V), vs = [.ref a, v] ∧ ES K C f ∧ H a = some (exo a C none) ∧ ∀ dx, H dx = none → dx ≠ a → Q .non (upd (upd H dx (exd dx [(f, v)])) a (exo a C (some dx)))
end G

set_option Elab.async false
set_option linter.all false
set_option maxRecDepth 100000
set_option maxHeartbeats 4000000
/-! Further rules: a base's method called by its class; a local that holds one of several defs, called with a star; an own error over any base raised, its field read where it is caught. -/
namespace G
open PySem PySem.Spec PyProof.Rows L2 StX ClX
section
variable {X : Cx} {CX : CXT} {k i : Nat} {f C : Addr} {mc : Value} {fd : FuncData} {ps : List Str} {sp : Sp} {E : XK} {x m n : Str} {o e : Expr} {es : List Expr} {te ta : TE} {t : TA} {p apos pos : Pos}
/-- C.m(e, ..), m a plain def of the class C -/
def tCfn (C : Addr) (sp : Sp) (E : XK) (ta : TE) (t : TA) : TE := fun σ H Q => ta σ H fun x H1 => x = .ref C ∧ t σ H1 fun vs H2 => sp vs H2 Q E
theorem pe_cfn {pl : Sem Bool} (he : PE X o ta) (r : CRead X.K C mc) (c : PySem.W.findCls X.K (.ref C) mc m = some (.val (.ref f))) (kf : PySem.W.keepIn X.K (.ref f) = true) (F : FnOk X.prog X.w X.K X.mg X.base CX k f fd ps sp) (hr : Room k X.A) (hb : Binds X.K fd ps []) (hx : Passes CX X E) (ha : PA X (e :: es) t)
    (hst : starEach (e :: es) X.env = (false, eval e X.env) :: starEach es X.env := by rfl) (hpl : (backTo pos (starEach es X.env)).any (·.1) = false := by rfl)
    (ht : eval (.Call (.Attribute o m apos) (e :: es) [] pos) X.env = (do
      let ov ← eval o X.env
      standAt apos.atName
      let (f, first) ← holding [ov] (getMethod ov m pl)
      callWith pos f first (backTo pos (starEach (e :: es) X.env)) (backToKw pos (keywordEach [] X.env))) := by rfl) :
    PE X (.Call (.Attribute o m apos) (e :: es) [] pos) (tCfn C sp E ta t) := by
  refine ⟨fun pins s σ H Q I h => ?_⟩
  refine PySem.W.methodCall_KW (pl := pl) (thn (he.run pins s σ H _ I h) fun u s1 ⟨y, H1, I1, ry, ey, q⟩ => ?_) ht
  subst ey
  obtain rfl : u = Value.ref C := ry
  refine PySem.W.method_cls I1.kIn r.ga (getcval_ok (v := .ref f) I1 r ⟨c, rfl⟩ fun s2 I2 => ?_)
  refine PySem.W.callWith_K (first := []) (h₀ := X.base) I.ok.mod.kin kf (thn (ha.run pos pins s2 σ H1 _ I2 q) fun us s3 ⟨vs, H2, I3, rv, q2⟩ => ⟨I3.kIn, ?_⟩) hst hpl
  have e0 : vs ++ [] = vs := List.append_nil vs
  exact run_fn F hr hb .nil hx I3 rv (by rw [e0]; exact q2)
/-- one of several defs that a local may hold -/
structure HeldX (P : Program) (w : World) (K : PySem.W.Frag) (mg : Str → Option Value) (base : Heap) (CX : CXT) (k : Nat) (f : Addr) (sp : Sp) : Prop where
  ex : ∃ (fd : FuncData) (ps : List Str), FnOk P w K mg base CX k f fd ps sp ∧ PySem.W.keepIn K (.ref f) = true ∧ Binds K fd ps []
def tCallV (i : Nat) (S : Addr → Sp → Prop) (E : XK) (t : TA) : TE := fun σ H Q => ∃ f sp, σ[i]? = some (some (.ref f)) ∧ S f sp ∧ t σ H fun vs H1 => sp vs H1 Q E
/-- x(e, .., *y), x a local -/
theorem pe_callV {S : Addr → Sp → Prop} (A : ∀ f sp, S f sp → HeldX X.prog X.w X.K X.mg X.base CX k f sp) (hr : Room k X.A) (hN : X.N[i]? = some x) (hv : Vis X.env.scope x) (hx : Passes CX X E) (ha : PA X (e :: es) t)
    (hdb : (x == ("__debug__" : Str)) = false := by decide) (hcd : (x == ("__classdict__" : Str)) = false := by decide)
    (he : starEach (e :: es) X.env = (false, eval e X.env) :: starEach es X.env := by rfl) (hst : (backTo pos (starEach es X.env)).any (·.1) = true := by rfl) : PE X (.Call (.Name x p) (e :: es) [] pos) (tCallV i S E t) := by
  refine ⟨fun pins s σ H Q I ⟨f, sp, hs, hS, ht⟩ => ?_⟩
  obtain ⟨fd, ps, F, hk, hb⟩ := (A f sp hS).ex
  refine wpAny_Call_Name_kw (thn ((pe_var (pos := p) hN hv hdb hcd).run pins s σ H (fun v H1 => v = .ref f ∧ H1 = H) I ⟨.ref f, hs, rfl, rfl⟩) fun u s1 ⟨v, H1, I1, r1, q1⟩ => ?_)
  obtain ⟨rfl, rfl⟩ := q1
  cases r1
  refine PySem.W.callWith_S2 (h₀ := X.base) I.ok.mod.kin hk (thn (ha.run pos pins s1 σ _ _ I1 ht) fun us s2 ⟨vs, H2, I2, r, q⟩ => ⟨I2.kIn, ?_⟩) he hst
  have e0 : vs ++ [] = vs := List.append_nil vs
  exact run_fn F hr hb .nil hx I2 r (by rw [e0]; exact q)
/-! ### raise C(e), C's own __init__ keeping sp -/
def tPmk (C : Addr) (sp : Sp) (ta : TA) : L2.St → Hp → XK → Prop := fun σ H Q => ta σ H fun vs H1 => vs.length ≤ 1000 ∧ ∀ a, H1 a = none → sp (.ref a :: vs) (upd H1 a (exo a C none))
  (fun v H2 => v = .non ∧ ∃ (d : Addr) (fs : List (Str × V)), H2 a = some (exo a C (some d)) ∧ H2 d = some (exd d fs) ∧ H1 d = none ∧ Q (.ref C) (some d) (upd (del H2 a) d (.xd fs))) (fun _ _ _ => False)
theorem pmk_E {fI : Addr} (M : EM X.K C fI) (R : Raises X (.ref C)) (F1 : FnOk X.prog X.w X.K X.mg X.base CX k fI fd ps sp) (hr : Room (k + 1) X.A) (hb : Binds X.K fd ps []) (hx : Passes CX X (fun _ _ _ => False))
    (hg : Gl X x) (hm : X.mg x = some (.ref C)) (ha : PA X (e :: es) t)
    (hdb : (x == ("__debug__" : Str)) = false := by decide) (he : starEach (e :: es) X.env = (false, eval e X.env) :: starEach es X.env := by rfl) (hpl : (backTo pos (starEach es X.env)).any (·.1) = false := by rfl) :
    PMk X (.Call (.Name x p) (e :: es) [] pos) (tPmk C sp t) := by
  intro pins s σ H Q I h
  obtain ⟨B, newId, initId, bm, BF, q⟩ := M.b
  refine wpAny_Call_Name_kw (ld_glob I hg hm ?_ hdb)
  refine PySem.W.callWith_K (h₀ := X.base) I.ok.mod.kin M.kp (thn (ha.run pos pins s σ H _ I h) fun us s1 ⟨vs, H1, I1, r1, hz, q1⟩ => ⟨I1.kIn, ?_⟩) he hpl
  obtain ⟨nm, N, qn, bs, bm', hdct, sn, sub, ab, col, dd, k0, k1, k2, k3, k5, hC, hT⟩ := PySem.W.excInit_of I1.kIn q
  obtain ⟨hp, g, dr, tk, os⟩ := s1
  have hsz : hp.objs.size ≤ hp.objs.size + 1 := Nat.le_succ _
  have hq := q1 (hp.objs.size + 1) (I1.hok.fresh hsz)
  have old : ∀ b o, hp.get? b = some o → ((hp.push (PySem.W.kdv_tup us)).push (PySem.HandSPX.excO C hp.objs.size)).get? b = some o := fun b o z => Heap.get?_push_of_some _ (Heap.get?_push_of_some _ z)
  have I2 : Inv X pins σ (upd H1 (hp.objs.size + 1) (exo (hp.objs.size + 1) C none)) ⟨(hp.push (PySem.W.kdv_tup us)).push (PySem.HandSPX.excO C hp.objs.size), g, dr, tk, os⟩ :=
    I1.laid (t' := tk) (a := hp.objs.size + 1) old hsz (exo_ok (by heap_get))
  have r2 : Vals (V.ref (hp.objs.size + 1) :: vs) (Value.ref (hp.objs.size + 1) :: us) := .cons rfl r1
  have hl : (Value.ref (hp.objs.size + 1) :: us).length = ps.length := r2.length.symm.trans (F1.len _ _ _ _ hq)
  have hus : us.length ≤ sizeLine := by rw [← r1.length]; exact line1000 hz
  have hbb := hb _ (Value.ref (hp.objs.size + 1) :: us) I2.kIn (by rw [List.append_nil]; exact hl)
  rw [List.append_nil] at hbb
  show wpAny _ _ (call (.ref C) us) _ _ _
  refine wpAny_call (PySem.HandSPX.call_own BF.ba hT hC (PySem.W.looks_findIn I1.kIn M.i) (fun self => PySem.W.bind_fn I1.kIn self M.t) hus
    (codeAny_mono (F1.run _ X.stack _ _ ⟨Value.ref (hp.objs.size + 1) :: us, []⟩ (Value.ref (hp.objs.size + 1) :: us) _ _ (fun _ _ _ => False) (hr.make C us []) (I2.env0.make C us []) hbb r2 hq) fun r s' hq' => ?_))
  match r, hq' with
  | .error er, hq' => exact hx pins σ _ _ er s' I2 hq'
  | .ok (.ret u), hq' =>
    obtain ⟨v, H2, os2, bare2, un2, hok2, rv, ev, d, fs, ea, ed, hd1, q2⟩ := hq'
    subst ev
    obtain ⟨h2, g2, d2, t2, os'⟩ := s'
    exact ⟨rv, mk_end R I1 hsz old un2 hok2 os2 bare2 ea ed hd1 q2⟩
  | .ok .next, hq' => exact False.elim hq'
  | .ok .brk, hq' => exact False.elim hq'
  | .ok .cont, hq' => exact False.elim hq'
/-- the error that the suite holds (at a; its class cls, its dict d): a field -/
def tCapF (K : PySem.W.Frag) (a : Addr) (cls : Value) (d : Option Addr) (f : Str) (te : TE) : TE := fun σ H Q => te σ H fun x H1 => x = .ref a ∧ ∃ (C dd : Addr) (fs : List (Str × V)) (v : V), cls = .ref C ∧ EC K C ∧ PySem.W.findIn K (.ref C) f = some none ∧ d = some dd ∧ H1 dd = some (.xd fs) ∧ fs.lookup f = some v ∧ Q v H1
theorem pe_capF {a : Addr} {oe : Obj} {cls : Value} {d : Option Addr} {pn : List (Addr × Obj)} {e : Expr} {te : TE} {pos : Pos} {f : Str} (hz : Zc cls d oe) (hf : ∃ vs, oe.data = .fields vs) (he : PE (X.suite a ((a, oe) :: pn)) e te)
    (hb : attributeBase e f X.env (eval e X.env) = eval e X.env := by rfl) : PE (X.suite a ((a, oe) :: pn)) (.Attribute e f pos) (tCapF X.K a cls d f te) := by
  refine ⟨fun pins s σ H Q I h => attr_of hb (thn (he.run pins s σ H _ I h) fun u s1 ⟨y, H1, I1, ry, ey, C, dd, fs, v, ec, T, hno, ed, ea, hl, q⟩ => ?_)⟩
  subst ey
  obtain rfl : u = Value.ref a := ry
  subst ec ed
  obtain ⟨ha, _⟩ := I1.pin (a, oe) (List.mem_append_left _ List.mem_cons_self)
  obtain ⟨vs, hd⟩ := hf
  obtain ⟨mA, hns, hr⟩ := (show ObjOk X.prog X.w H1 s1.heap dd (.xd fs) from I1.hok dd _ ea)
  obtain ⟨od, ho, hl2⟩ := lookIn_ns hns
  obtain ⟨u, hu, ru⟩ := RelO.some_of (v := v) (o := mA f) (by rw [← hl]; exact hr f)
  have J : PySem.W.InstAt s1.heap a oe C (some od) := ⟨ha, hz.1, by unfold PySem.W.notCls; rw [hd] <;> rfl, by rw [hz.2]; exact ho⟩
  exact PySem.HandSPX.exc_get I1.kIn J T.ga T.gt T.sb (PySem.W.findObj_own T.hd hno rfl (by rw [hl2, hu])) (handed_of ru) ⟨v, H1, I1.tok _, ru, q⟩
end
end G

set_option Elab.async false
set_option linter.all false
set_option maxRecDepth 100000
set_option maxHeartbeats 4000000
/-! The head by facts read by a Hook: the end for FnOkG, defs and methods out of what the Hook says. -/
namespace G
open PySem PySem.Spec PyProof.Rows L2 StX ClX
theorem walk_ofGE {l : PySem.W.OpenLaw} {n k : Nat} {q : Program} {loose : List Str} {XP : (Str → Option Value) → Heap → Prop} {YP : World → Heap → Prop}
    {d : DefRec} {x : Str} (hn : l.most = some n) (hn2 : n ≤ sizeLine) (hdf : d.params.defaults = []) (hr : Room k callerA)
    (F : ∀ (w : World) (mg : Str → Option Value) (fa : Addr) (h : Heap), YP w h → h.Ns mainGlobals mg → mg d.name = some (.ref fa) →
      ∃ (K : PySem.W.Frag) (fd : FuncData), K.In h ∧ (∀ (s : Shared) (u : Value), BindsTo s fd ⟨[u], []⟩ [(x, u)]) ∧
        ∀ base : Heap, K.In base → base.Ns mainGlobals mg → FnOkG l.prog w K mg base k fa fd [x] (spLawN K n)) :
    PySem.W.WalkO q loose XP YP l.row.toRowW d [] (fun f vs => PySem.call f vs) := by
  refine Att.attach_call hn hdf fun w s₀ s₁ mg mb fa o pm cd doc a vs ns Gr Y ho hd hcd hmg hobj hints hlen hgens => ?_
  obtain ⟨K, fd, KX, hb, hF⟩ := F w mg fa _ Y Gr.T.g hmg
  have rv := vals_ints hints
  have hl : ns.length ≤ sizeLine := Nat.le_trans hlen hn2
  have goal := @call_at l.prog w K mg mb k n fa a fd x s₁ vs ns KX Gr.T.g Gr.T.b Gr.T.builtins Gr.T.nolimit hgens hobj hlen hr hF hb
  cases hk : K.lookup a with
  | some o1 =>
    have e := KX a o1 hk
    rw [hobj] at e
    cases e
    refine goal (fun _ => none) (fun _ => Or.inl rfl) (Or.inr ⟨_, vs.toArray, _, hk, rfl, rfl, rfl, ?_, by simpa using rv⟩) (fun b u z => nomatch z) (fun b z => absurd rfl z) fun z => absurd rfl z
    rw [List.size_toArray, hints.length]
    exact hl
  | none =>
    let frozen : HO := .frz { cls := .type "list", data := .seq vs.toArray } (.lst (ns.map V.int))
    have at_a : ∀ b, b = a → (fun b => if b = a then some frozen else none : Hp) b = some frozen := fun b hb => if_pos hb
    have off_a : ∀ b, b ≠ a → (fun b => if b = a then some frozen else none : Hp) b = none := fun b hb => if_neg hb
    refine goal (fun b => if b = a then some frozen else none) (fun b => ?_) (Or.inl (Or.inr ⟨_, at_a a rfl⟩)) (fun b u z => ?_) (fun b z => ?_) fun _ => hk
    · by_cases hb : b = a
      · exact Or.inr ⟨_, _, at_a b hb⟩
      · exact Or.inl (off_a b hb)
    · by_cases hb : b = a
      · rw [at_a b hb] at z
        cases z
        subst hb
        exact ⟨hobj, by rw [List.length_map]; exact hl, vs, _, rv, hobj⟩
      · rw [off_a b hb] at z
        cases z
    · by_cases hb : b = a
      · exact hb
      · exact absurd (off_a b hb) z
/-- a def without defaults, as the Hook tells it -/
theorem fun_ofD {K : PySem.W.Frag} {x qual : Str} {st : Stmt} {f : Addr} {fd : FuncData} (F : FunD K x qual (defArgs st) (defBody st) (defScope st) [] [] f fd) : Fun K x qual st f fd := by
  obtain ⟨oc, od, dV, kV, doc, pm, an, cdv, ct, osl, rfl, lk, hcd, hD, _⟩ := F.ex
  rcases hD with ⟨_, rfl⟩ | ⟨e, _⟩
  · exact ⟨⟨oc, od, kV, doc, pm, an, cdv, ct, osl, rfl, lk, hcd⟩, F.kp⟩
  · exact absurd rfl e
/-- a def of the module and how it is called -/
structure DfX (K : PySem.W.Frag) (mg : Str → Option Value) (x : Str) (st : Stmt) (ps : List Str) (f : Addr) (fd : FuncData) : Prop where
  F : Fun K x x st f fd
  b : Binds K fd ps []
  m : mg x = some (.ref f)
/-- a method -/
structure MdX (K : PySem.W.Frag) (C : Addr) (x q : Str) (st : Stmt) (ps : List Str) (f : Addr) (fd : FuncData) : Prop where
  F : Fun K x q st f fd
  b : Binds K fd ps []
  m : Meth K C x f
/-- how a def's arguments bind -/
def BindOk (x qual : Str) (st : Stmt) (ps : List Str) : Prop := ∀ (kV doc pm : Value) (an : Option Addr) (cdv ct : Value) (us : List Value), us.length = ps.length → bindArgs (PySem.W.fnOf x qual (defArgs st) (defBody st) (defScope st) .none kV doc pm an cdv ct) ⟨us, []⟩ = pure (ps.zip us)
abbrev dDef (x : Str) (st : Stmt) : He.DefD := ⟨(x, none), x, x, defArgs st, defBody st, defScope st, [], []⟩
abbrev dMet (C x q : Str) (st : Stmt) : He.DefD := ⟨(C, some x), x, q, defArgs st, defBody st, defScope st, [], []⟩
section
variable {K : PySem.W.Frag} {h : Heap} {mg : Str → Option Value} {fa : List He.Fa} {fn : List He.DefD}
theorem dfx (X : K.In h) (G : h.Ns mainGlobals mg) (c : He.SaysD fa fn K) {x : Str} {st : Stmt} {ps : List Str} (i j : Nat) (hb : BindOk x x st ps) (hd : fn[i]? = some (dDef x st)) (hf : fa[j]? = some (.glo x)) : ∃ fd, DfX K mg x st ps (He.ga K x) fd := by
  obtain ⟨fd, F⟩ := c.def_ i hd
  have F2 : Fun K x x st (He.ga K x) fd := fun_ofD F
  exact ⟨fd, F2, F2.binds hb, He.glo_ok X G (c.fact j hf)⟩
theorem mdx (c : He.SaysD fa fn K) {C x q : Str} {st : Stmt} {ps : List Str} (i j : Nat) (hb : BindOk x q st ps) (hd : fn[i]? = some (dMet C x q st)) (hf : fa[j]? = some (.meth C x)) : ∃ fd, MdX K (He.ga K C) x q st ps (He.ma K (He.ga K C) x) fd := by
  obtain ⟨fd, F⟩ := c.def_ i hd
  have F2 : Fun K x q st (He.ma K (He.ga K C) x) fd := fun_ofD F
  exact ⟨fd, F2, F2.binds hb, He.meth_ok (c.fact j hf)⟩
theorem inx (c : He.SaysD fa fn K) {C x q : Str} {st : Stmt} {ps : List Str} (i : Nat) (hb : BindOk x q st ps) (hd : fn[i]? = some (dMet C x q st)) : ∃ fd, Fun K x q st (He.ma K (He.ga K C) x) fd ∧ Binds K fd ps [] := by
  obtain ⟨fd, F⟩ := c.def_ i hd
  have F2 : Fun K x q st (He.ma K (He.ga K C) x) fd := fun_ofD F
  exact ⟨fd, F2, F2.binds hb⟩
end
/-- the module's dict of defs -/
theorem kdct_of {K : PySem.W.Frag} {w : World} {a : Addr} {es : Array DictEntry} {n : Nat} (D : KDict K w a es n) {kvs : List (Str × He.Dv)} (h : He.valsB K a kvs = true) {x f : Str} (hq : (x, He.Dv.glo f) ∈ kvs) : KDct K w a x (.ref (He.ga K f)) := by
  obtain ⟨u, e, r⟩ := He.valsB_ok h hq
  exact ⟨es, n, u, D.at_, D.lit, e, r⟩
/-- an empty tuple of the module -/
def noneB (K : PySem.W.Frag) (a : Addr) : Bool := match K.lookup a with
  | some ⟨.type c, _, .seq its _, _⟩ => decide (c = "tuple") && its.isEmpty
  | _ => false
theorem noneB_ok {K : PySem.W.Frag} {a : Addr} (h : noneB K a = true) (H : Hp) : SqT K H a [] := by
  unfold noneB at h
  cases q : K.lookup a with
  | none => rw [q] at h; cases h
  | some o =>
    obtain ⟨oc, od, dt, osl⟩ := o
    rw [q] at h
    cases oc with
    | type c =>
      cases dt with
      | seq its n =>
        obtain ⟨h1, h2⟩ := He.ba (show (decide (c = "tuple") && its.isEmpty) = true from h)
        have e : its = #[] := Array.isEmpty_iff.mp h2
        subst e
        exact .inr ⟨_, #[], n, q, congrArg Value.type (of_decide_eq_true h1), rfl, Nat.zero_le _, .nil⟩
      | _ => cases h
    | _ => cases dt <;> cases h
/-- the keyword default x of the def, if it is an object -/
def kwdAt (f : Str × Option Str) (x : Str) (K : PySem.W.Frag) : Addr := match K.lookup (He.fAd K f) with
  | some ⟨_, _, .func fd, _⟩ => (match fd.kwdefaults with
    | .ref D => (match PySem.W.nsIn K D x with
      | some (some (.ref a)) => a
      | _ => 0)
    | _ => 0)
  | _ => 0
/-! ### the Hook: the names' reach, the interpreter's statics, one more Bool -/
def asS (g : Addr → Option Obj) (n : Nat) : List Addr := He.asD g n ++ [PySem.cStatics]
structure SaysS (fa : List He.Fa) (fn : List He.DefD) (ts : List He.Tab) (ex : PySem.W.Frag → Bool) (w : World) (K : PySem.W.Frag) : Prop where
  t : He.SaysT fa fn ts w K
  more : ex K = true
abbrev AlS : Type := He.AlT × Bool
def obsS (n : Nat) (fa : List He.Fa) (fn : List He.DefD) (ts : List He.Tab) (ex : PySem.W.Frag → Bool) (g : Addr → Option Obj) : AlS := (He.obsT fa fn ts (He.frG g (asS g n)), ex (He.frG g (asS g n)))
def valS (fn : List He.DefD) (ts : List He.Tab) (w : World) : AlS := (He.valT fn ts w, true)
def hookS (n : Nat) (fa : List He.Fa) (fn : List He.DefD) (ts : List He.Tab) (ex : PySem.W.Frag → Bool) : PySem.W.Hook where
  α := AlS
  obs := fun s => obsS n fa fn ts ex s.heap.get?
  val := fun w => valS fn ts w
  says := fun w h => ∃ K : PySem.W.Frag, K.In h ∧ SaysS fa fn ts ex w K
  of := fun _ _ e => ⟨_, He.frG_in, ⟨congrArg (fun z : AlS => z.1) e, congrArg (fun z : AlS => z.2) e⟩⟩
  keeps := fun _ _ _ ⟨K, hK, c⟩ k => ⟨K, PySem.W.Frag.In.keeps hK k, c⟩
theorem obsS_eq {n : Nat} {fa : List He.Fa} {fn : List He.DefD} {ts : List He.Tab} {ex : PySem.W.Frag → Bool} {g : Addr → Option Obj} {s : Shared} (h : ∀ a, g a = s.heap.get? a) : obsS n fa fn ts ex g = (hookS n fa fn ts ex).obs s := by
  have e : g = s.heap.get? := funext h
  rw [e] <;> rfl
/-- an own error's class over a base with its own __init__ -/
def ciB (K : PySem.W.Frag) (C fI : Addr) (bm : List Value) (newId : String) (f : Str) : Bool := PySem.W.excInitIn K C bm newId && PySem.W.excOver K C bm && ecB K C && PySem.W.findIn K (.ref C) "__init__" == some (some (.ref fI)) &&
  PySem.W.typeIn K (.ref fI) == some (.type "function") && PySem.W.findIn K (.ref C) f == some none
theorem taker_of {K : PySem.W.Frag} {C : Addr} {f : Str} (h : PySem.W.findIn K (.ref C) f = some none) : PySem.W.takerIn K C f = some none := by
  unfold PySem.W.takerIn
  rw [h]
  rfl
theorem ci_of {K : PySem.W.Frag} {C fI : Addr} {bm : List Value} {B newId initId : String} {f : Str} (BF : BaseF B newId initId bm) (h : ciB K C fI bm newId f = true) : EM K C fI ∧ ES K C f ∧ PySem.W.findIn K (.ref C) f = some none := by
  unfold ciB at h
  simp only [Bool.and_eq_true, beq_iff_eq] at h
  obtain ⟨⟨⟨⟨⟨a, b⟩, c⟩, d⟩, e⟩, g⟩ := h
  exact ⟨⟨⟨B, newId, initId, bm, BF, a⟩, (EC.of c).kp, d, e⟩, ⟨⟨B, newId, initId, bm, BF, b⟩, EC.of c, taker_of g⟩, g⟩
def creadB (K : PySem.W.Frag) (C : Addr) (mc : Value) : Bool := PySem.W.readsIn K C mc && PySem.W.specialIn K (.ref C) "__getattribute__" == some (some (.builtin "type.__getattribute__"))
theorem cread_of {K : PySem.W.Frag} {C : Addr} {mc : Value} (h : creadB K C mc = true) : CRead K C mc := by
  unfold creadB at h
  simp only [Bool.and_eq_true, beq_iff_eq] at h
  exact ⟨h.1, h.2⟩
end G

set_option Elab.async false
set_option linter.all false
set_option maxRecDepth 100000
set_option maxHeartbeats 4000000
/-! The cells of a run: what they are on paper, and where they stand. -/
namespace G
open PySem PySem.Spec PyProof.Rows L2
theorem Same.up {H : Hp} {p : Addr} {o : HO} (np : H p = none) : Same H (upd H p o) := fun b u e => by
  rw [upd_ne (ne_of_none e np)]
  exact e
/-! ### rows of pairs, as a dict keeps them -/
section
variable {κ β : Type} [DecidableEq κ]
def look (l : List (κ × β)) (k : κ) : Option β := (l.find? fun p => decide (p.1 = k)).map (·.2)
def put (l : List (κ × β)) (k : κ) (b : β) : List (κ × β) := if (l.any fun p => decide (p.1 = k)) = true then l.map (fun p => if p.1 = k then (p.1, b) else p) else l ++ [(k, b)]
def drp (l : List (κ × β)) (k : κ) : List (κ × β) := l.filter fun p => decide (p.1 ≠ k)
theorem put_length (l : List (κ × β)) (k : κ) (b : β) : (put l k b).length ≤ l.length + 1 := by
  unfold put
  split
  · rw [List.length_map]; omega
  · rw [List.length_append]; exact Nat.le_refl _
theorem drp_length (l : List (κ × β)) (k : κ) : (drp l k).length ≤ l.length := List.length_filter_le _ _
end
/-- as a dict holds it -/
def dct {κ β : Type} (km : κ → Key) (vm : β → V) (l : List (κ × β)) : List (Key × V) := l.map fun p => (km p.1, vm p.2)
section
variable {κ β : Type} [DecidableEq κ] {km : κ → Key} {vm : β → V}
theorem dct_len (l : List (κ × β)) : (dct km vm l).length = l.length := List.length_map _
theorem valV_dct (inj : ∀ x y, km x = km y → x = y) (l : List (κ × β)) (k : κ) : valV (dct km vm l) (km k) = (look l k).map vm := by
  induction l with
  | nil => rfl
  | cons p r ih =>
    by_cases h : p.1 = k
    · rw [show dct km vm (p :: r) = (km p.1, vm p.2) :: dct km vm r from rfl, valV_pos (by rw [h])]
      simp [look, List.find?_cons, h]
    · rw [show dct km vm (p :: r) = (km p.1, vm p.2) :: dct km vm r from rfl, valV_neg (fun z => h (inj _ _ z)), ih]
      simp [look, List.find?_cons, h]
theorem any_dct (inj : ∀ x y, km x = km y → x = y) (l : List (κ × β)) (k : κ) : ((dct km vm l).any fun kv => decide (kv.1 = km k)) = l.any fun p => decide (p.1 = k) := by
  induction l with
  | nil => rfl
  | cons p r ih =>
    show (decide (km p.1 = km k) || (dct km vm r).any _) = (decide (p.1 = k) || r.any _)
    rw [ih, decide_eq_decide.mpr ⟨fun z => inj _ _ z, fun z => by rw [z]⟩]
theorem putK_dct (inj : ∀ x y, km x = km y → x = y) (l : List (κ × β)) (k : κ) (b : β) : putK (dct km vm l) (km k) (vm b) = dct km vm (put l k b) := by
  unfold putK put
  rw [any_dct inj]
  split
  · unfold dct
    rw [List.map_map, List.map_map]
    refine List.map_congr_left fun p _ => ?_
    by_cases h : p.1 = k
    · simp [h]
    · have h2 : ¬ km p.1 = km k := fun z => h (inj _ _ z)
      simp [h, h2]
  · simp [dct]
theorem dropK_dct (inj : ∀ x y, km x = km y → x = y) (l : List (κ × β)) (k : κ) : dropK (dct km vm l) (km k) = dct km vm (drp l k) := by
  unfold dropK drp dct
  rw [List.filter_map]
  congr 1
  refine List.filter_congr fun p _ => ?_
  show decide (km p.1 ≠ km k) = decide (p.1 ≠ k)
  exact decide_eq_decide.mpr ⟨fun z e => z (by rw [e]), fun z e => z (inj _ _ e)⟩
end
def kS (x : Str) : Key := .inr x
def kN (n : Nat) : Key := .inl (n : Int)
theorem kS_inj : ∀ x y, kS x = kS y → x = y := fun _ _ h => Sum.inr.inj h
theorem kN_inj : ∀ x y, kN x = kN y → x = y := fun _ _ h => Int.ofNat.inj (Sum.inl.inj h)
def optV : Option Nat → V
  | none => .non
  | some n => .int n
/-! ### what changes -/
/-- only what stands at one of S changed, and no tuple; nothing is gone -/
structure Ch (S : List Addr) (H H' : Hp) : Prop where
  kp : Kp S H H'
  tu : ∀ b xs, H b = some (.tup xs) → H' b = some (.tup xs)
  al : ∀ b o, H b = some o → ∃ u, H' b = some u
theorem Ch.refl (S : List Addr) (H : Hp) : Ch S H H := ⟨Kp.refl S H, fun _ _ h => h, fun _ o h => ⟨o, h⟩⟩
theorem Ch.trans {S : List Addr} {H H1 H2 : Hp} (a : Ch S H H1) (b : Ch S H1 H2) : Ch S H H2 := ⟨a.kp.trans b.kp, fun c xs h => b.tu c xs (a.tu c xs h), fun c o h => let ⟨u, e⟩ := a.al c o h; b.al c u e⟩
theorem Ch.mono {S T : List Addr} {H H' : Hp} (a : Ch S H H') (h : ∀ b, b ∈ S → b ∈ T) : Ch T H H' := ⟨a.kp.mono h, a.tu, a.al⟩
theorem Ch.same {S : List Addr} {H H' : Hp} (s : Same H H') : Ch S H H' := ⟨Kp.same s, fun b xs h => s b _ h, fun b o h => ⟨o, s b o h⟩⟩
theorem Ch.new {S : List Addr} {p : Addr} {H H' : Hp} {o : HO} (a : Ch S H H') (h : H' p = none) : Ch S H (upd H' p o) := a.trans (Ch.same (Same.up h))
theorem Ch.put {S : List Addr} {p : Addr} {H H' : Hp} {o u : HO} (a : Ch S H H') (h : p ∈ S) (hp : H' p = some u) (nt : ∀ xs, u ≠ .tup xs) : Ch S H (upd H' p o) :=
  ⟨a.kp.put h, fun b xs e => by
    have z := a.tu b xs e
    have ne : b ≠ p := fun q => by
      rw [q, hp] at z
      exact nt xs (Option.some.inj z)
    rw [upd_ne ne]
    exact z, fun b o' e => by
    by_cases hb : b = p
    · rw [hb]
      exact ⟨_, upd_same⟩
    · obtain ⟨v, z⟩ := a.al b o' e
      exact ⟨v, by rw [upd_ne hb]; exact z⟩⟩
theorem Ch.free {S : List Addr} {H H' : Hp} {b : Addr} (a : Ch S H H') (h : H' b = none) : H b = none := by
  cases e : H b with
  | none => rfl
  | some o =>
    obtain ⟨u, z⟩ := a.al b o e
    rw [h] at z
    cases z
/-- what was not there at first need not be named -/
theorem Ch.less {S : List Addr} {p : Addr} {H H' : Hp} (a : Ch (p :: S) H H') (h : H p = none) : Ch S H H' := ⟨a.kp.fresh h, a.tu, a.al⟩
theorem Ch.lessS {S T : List Addr} {H H' : Hp} (a : Ch T H H') (h : ∀ b ∈ T, b ∈ S ∨ H b = none) : Ch S H H' :=
  ⟨fun b o n e => a.kp b o (fun z => (h b z).elim n fun q => by rw [q] at e; cases e) e, a.tu, a.al⟩
/-! ### the cells -/
structure PC where
  S : List (Str × Option Nat)
  F : List (List (Str × Nat × Bool))
  W : List (Nat × Str)
  ke : List Nat
  cl : List (Nat × Int)
structure CAd where
  C : Addr
  dC : Addr
  st : Addr
  fi : Addr
  wi : Addr
  ke : Addr
  cl : Addr
  fl : List Addr
def CAd.foot (a : CAd) : List Addr := [a.st, a.fi, a.wi, a.ke, a.cl] ++ a.fl
/-- a field's dict -/
def FdR (H : Hp) : List (Str × Nat × Bool) → List (Key × V) → Prop := Paired fun x y => y.1 = kS x.1 ∧ ∃ t, y.2 = .ref t ∧ H t = some (.tup [.int x.2.1, .bl x.2.2])
def FdAt (H : Hp) (q : Addr) (l : List (Str × Nat × Bool)) : Prop := ∃ kvs, H q = some (.dK kvs) ∧ FdR H l kvs
structure Sz (p : PC) (B : Nat) : Prop where
  S : p.S.length ≤ B
  F : p.F.length ≤ B
  f : ∀ l ∈ p.F, l.length ≤ B
  W : p.W.length ≤ B
  k : p.ke.length ≤ B
  c : p.cl.length ≤ B
  t : (p.F.map List.length).sum ≤ B
theorem Sz.mono {p : PC} {B B' : Nat} (h : Sz p B) (hb : B ≤ B') : Sz p B' :=
  ⟨Nat.le_trans h.S hb, Nat.le_trans h.F hb, fun l hl => Nat.le_trans (h.f l hl) hb, Nat.le_trans h.W hb, Nat.le_trans h.k hb, Nat.le_trans h.c hb, Nat.le_trans h.t hb⟩
structure Cel (CC : Addr) (H : Hp) (a : CAd) (p : PC) (B : Nat) : Prop where
  hC : H a.C = some (.ins CC a.dC [("stands", .ref a.st), ("fields", .ref a.fi), ("wishes", .ref a.wi), ("kept", .ref a.ke), ("cleared", .ref a.cl)])
  hst : H a.st = some (.dK (dct kS optV p.S))
  hfi : H a.fi = some (.lst (a.fl.map V.ref))
  hwi : H a.wi = some (.dK (dct kN V.str p.W))
  hke : H a.ke = some (.dK (dct kN (fun _ => V.bl true) (p.ke.map fun c => (c, ()))))
  hcl : H a.cl = some (.dK (dct kN V.int p.cl))
  hfl : Paired (FdAt H) a.fl p.F
  nd : a.foot.Nodup
  nC : a.C ∉ a.foot
  sz : Sz p B
theorem FdR.ch {S : List Addr} {H H' : Hp} {l : List (Str × Nat × Bool)} {kvs : List (Key × V)} (h : FdR H l kvs) (c : Ch S H H') : FdR H' l kvs := by
  induction h with
  | nil => exact .nil
  | cons h1 h2 ih =>
    obtain ⟨e, t, et, ht⟩ := h1
    exact .cons ⟨e, t, et, c.tu _ _ ht⟩ ih
theorem FdAt.ch {S : List Addr} {H H' : Hp} {q : Addr} {l : List (Str × Nat × Bool)} (h : FdAt H q l) (c : Ch S H H') (n : q ∉ S) : FdAt H' q l := by
  obtain ⟨kvs, hq, hr⟩ := h
  exact ⟨kvs, c.kp _ _ n hq, hr.ch c⟩
theorem flds_ch {S : List Addr} {H H' : Hp} (c : Ch S H H') : ∀ {fl : List Addr} {F : List (List (Str × Nat × Bool))}, Paired (FdAt H) fl F → (∀ q ∈ fl, q ∉ S) → Paired (FdAt H') fl F
  | _, _, .nil, _ => .nil
  | _, _, .cons h t, n => .cons (h.ch c (n _ (List.mem_cons_self ..))) (flds_ch c t fun q hq => n q (List.mem_cons_of_mem _ hq))
theorem Cel.ch {CC : Addr} {S : List Addr} {H H' : Hp} {a : CAd} {p : PC} {B : Nat} (h : Cel CC H a p B) (c : Ch S H H') (n : ∀ b ∈ S, b ∉ a.foot ∧ b ≠ a.C) : Cel CC H' a p B := by
  have nf : ∀ b ∈ a.foot, b ∉ S := fun b hb hs => (n b hs).1 hb
  have m : ∀ x ∈ [a.st, a.fi, a.wi, a.ke, a.cl], x ∉ S := fun x hx => nf x (List.mem_append_left _ hx)
  exact ⟨c.kp _ _ (fun z => (n _ z).2 rfl) h.hC, c.kp _ _ (m _ (by simp)) h.hst, c.kp _ _ (m _ (by simp)) h.hfi, c.kp _ _ (m _ (by simp)) h.hwi, c.kp _ _ (m _ (by simp)) h.hke, c.kp _ _ (m _ (by simp)) h.hcl,
    flds_ch c h.hfl fun q hq => nf q (List.mem_append_right _ hq), h.nd, h.nC, h.sz⟩
/-- no tuple stands at an address of the cells -/
theorem Cel.foot_nt {CC : Addr} {H : Hp} {a : CAd} {p : PC} {B : Nat} (h : Cel CC H a p B) : ∀ b ∈ a.foot, ∃ u, H b = some u ∧ ∀ xs, u ≠ .tup xs := by
  intro b hb
  have key : ∀ {fl : List Addr} {F : List (List (Str × Nat × Bool))}, Paired (FdAt H) fl F → b ∈ fl → ∃ kvs, H b = some (.dK kvs) := by
    intro fl F hp
    induction hp with
    | nil => intro z; cases z
    | cons h1 h2 ih =>
      intro z
      rcases List.mem_cons.mp z with z | z
      · obtain ⟨kvs, hq, _⟩ := h1
        exact ⟨kvs, by rw [z]; exact hq⟩
      · exact ih z
  rcases List.mem_append.mp hb with hb | hb
  · simp only [List.mem_cons, List.not_mem_nil, or_false] at hb
    rcases hb with rfl | rfl | rfl | rfl | rfl
    · exact ⟨_, h.hst, fun xs z => by cases z⟩
    · exact ⟨_, h.hfi, fun xs z => by cases z⟩
    · exact ⟨_, h.hwi, fun xs z => by cases z⟩
    · exact ⟨_, h.hke, fun xs z => by cases z⟩
    · exact ⟨_, h.hcl, fun xs z => by cases z⟩
  · obtain ⟨kvs, hq⟩ := key h.hfl hb
    exact ⟨_, hq, fun xs z => by cases z⟩
end G

set_option linter.all false
namespace G
open PySem PySem.Spec PyProof.Rows L2
def top (i : Nat) : Stmt := PySem.Challenge.pw_maybegone_k48_rules_by_operators.main.body.getD i (.Pass ⟨0, 0, 0, 0⟩)
end G

set_option Elab.async false
set_option linter.all false
set_option maxRecDepth 100000
set_option maxHeartbeats 4000000
namespace G
open PySem PySem.Spec PyProof.Rows L2
/-! ### the deck's def -/
abbrev s__law_deck : Stmt := top 12
abbrev n__law_deck : List Str := ["_law_script", "_law_cell"]
theorem sc__law_deck : FnScope n__law_deck ["_law_script"] (defScope s__law_deck) := ⟨rfl, rfl, rfl, by decide +kernel, rfl, by decide +kernel, by decide +kernel⟩
def spDeck (K : PySem.W.Frag) : Sp := fun vs H Q _ => ∃ (a : Addr) (ns : List Int), vs = [.ref a] ∧ SqL K H a (ns.map V.int) ∧ ns.length ≤ 63 ∧ ∀ H' D L, Same H H' → Deck H' D L 0 → H D = none → H L = none → Q (.ref D) H'
section
variable {P : Program} {w : World} {K : PySem.W.Frag} {mg : Str → Option Value} {base : Heap}
theorem ok_deck {f : Addr} {fd : FuncData} {k : Nat} (F : Fun K "_law_deck" "_law_deck" s__law_deck f fd) (T : Bi mg) : FnOk P w K mg base CX0 (k + 1) f fd ["_law_script"] (spDeck K) := by
  refine F.ok sc__law_deck (fun vs H Q E h => ?_) (fun cdv A outer s H vs Q E hr h => ?_)
  · obtain ⟨a, ns, rfl, _⟩ := h
    rfl
  obtain ⟨a, ns, rfl, hS, hlen, q⟩ := h
  refine ⟨_, (pss_one (ps_ret (pe_lst (pa_cons (pe_lc (own := [("_law_cell", 1)]) (by rfl) sc__law_deck.nd (pi_list (pe_slice sl_list (pv 0) po_none (po_some pe_int))) (blkOk_by (N := n__law_deck) (sc := defScope s__law_deck) (by decide +kernel)) (fun _ _ _ _ _ => (pg_name (i := 1) sc__law_deck.nd rfl (.inl rfl))) (fun _ _ _ _ _ => pts_nil) (fun _ _ _ _ _ => (pe_callB call_abs (by rfl) T.z_abs (by decide +kernel) (pa_cons (pv 1) pa_nil)))) (pa_cons pe_int pa_nil))))), ?_⟩
  refine ⟨_, rfl, _, rfl, a, ns.map V.int, rfl, hS, fun c nc => ?_⟩
  refine ⟨c, rfl, ⟨_, SqL.of upd_same⟩, fun L nL => ?_⟩
  have ec : cutV (ns.map V.int) none (some 63) = ns.map V.int := cut_all (by rw [List.length_map]; exact hlen)
  rw [ec] at nL ⊢
  have sc : Same H (upd H c (.lst (ns.map V.int))) := (Kp.new (Kp.refl [] H) nc).toSame
  have ncL : c ≠ L := fun e => by rw [← e, upd_same] at nL; cases nL
  refine lc_list (K := K) (a := c) (xs := ns.map V.int) (fun i H' => Kp [L] (upd H c (.lst (ns.map V.int))) H' ∧ H' L = some (.lst (((ns.map iabs).take i).map V.int)))
    ⟨(Kp.refl _ _).new nL, upd_same⟩ (fun i H' _ h => SqL.of (h.1 c _ (by simpa using ncL) upd_same)) ?_ ?_
  · rintro i x H' hi ⟨sm, hL⟩
    obtain ⟨u, eu, rfl⟩ : ∃ u, ns[i]? = some u ∧ V.int u = x := by simpa using hi
    refine ⟨rfl, .int u, rfl, u, rfl, _, hL, ?_, sm.put (by simp), ?_⟩
    · rw [List.length_map, List.length_take]
      exact small1000 (by rw [List.length_map]; omega)
    · rw [upd_same, take_step (x := iabs u) (by simp [eu]), List.map_append]
      rfl
  · rintro H' ⟨sm, hL⟩
    have sm1 : Same (upd H c (.lst (ns.map V.int))) H' := (sm.fresh nL).toSame
    refine ⟨by show 2 ≤ sizeLine; exact line1000 (by decide), fun D nD => ?_⟩
    rw [List.length_map, List.take_of_length_le (by rw [List.length_map]; exact Nat.le_refl _)] at hL
    have neDL : D ≠ L := (ne_of_none hL nD).symm
    have s2 : Same H (upd H' D (.lst [.ref L, .int 0])) := (Kp.new (S := []) (Kp.same (sc.trans sm1)) nD).toSame
    refine q _ D L s2 ⟨neDL, 0, ns.map iabs, upd_same, by rw [upd_ne neDL.symm]; exact hL, Int.le_refl _, Int.le_refl _, by rw [List.length_map]; exact hlen, fun x hx => ?_⟩ ?_ (sc.free nL)
    · obtain ⟨y, _, rfl⟩ := List.mem_map.mp hx
      exact iabs_nonneg y
    · exact (sc.trans sm1).free nD

/-! ### a draw (the laws of stories, rules, ways) -/
abbrev s__law_draw : Stmt := top 13
abbrev n__law_draw : List Str := ["_law_deck_here", "_law_many", "_law_place", "_law_cell", "_law_mixed"]
theorem sc__law_draw : FnScope n__law_draw ["_law_deck_here", "_law_many"] (defScope s__law_draw) := ⟨rfl, rfl, rfl, by decide +kernel, rfl, by decide +kernel, by decide +kernel⟩
def spDraw : Sp := fun vs H Q _ => ∃ (D L : Addr) (n : Nat) (many : Int), vs = [.ref D, .int many] ∧ Deck H D L n ∧ n < 10 ^ 12 ∧ 1 ≤ many ∧ many < 1073741824 ∧
  ∀ H' r, Kp [D, L] H H' → Deck H' D L (n + 1) → 0 ≤ r → r < many → Q (.int r) H'
theorem ok_draw {f : Addr} {fd : FuncData} {k : Nat} (F : Fun K "_law_draw" "_law_draw" s__law_draw f fd) (T : Bi mg) (z_max : mg "max" = none) : FnOk P w K mg base CX0 (k + 1) f fd ["_law_deck_here", "_law_many"] spDraw := by
  refine F.ok sc__law_draw (fun vs H Q E ⟨D, L, n, many, ev, _⟩ => by rw [ev]; rfl) (fun cdv A outer s H vs Q E hr ⟨D, L, n, many, ev, hD, hn, hm1, hm2, q⟩ => ?_)
  subst ev
  refine ⟨_, (pss_cons (ps_asg (pe_op op_add (pe_ix ix_list (pv 0) pe_int (fun _ _ => rfl)) pe_int) (pg_sub (pv 0) pe_int set_list))
      (pss_cons (ps_set (i := 2) sc__law_draw.nd rfl (.inl rfl) (pe_op op_modN (pe_callTy call_int1 (by rfl) T.z_int (by decide +kernel) (pa_cons (pe_ix ix_list (pv 0) pe_int (fun _ _ => rfl)) pa_nil)) (pe_callB (call_max2 rfl) (by rfl) z_max (by decide +kernel) (pa_cons pe_int (pa_cons (pe_callB call_len_seq (by rfl) T.z_len (by decide +kernel) (pa_cons (pe_ix ix_list (pv 0) pe_int (fun _ _ => rfl)) pa_nil)) pa_nil)))))
      (pss_cons (ps_set (i := 3) sc__law_draw.nd rfl (.inl rfl) (pe_ix ix_list (pe_op op_cat (pe_ix ix_list (pv 0) pe_int (fun _ _ => rfl)) (pe_lst (pa_cons pe_int pa_nil))) (pv 2) (fun _ _ => rfl)))
      (pss_cons (ps_if (pt_cmpR op_ge (pv 3) (pe_op op_pow pe_int pe_int) (nomark _))
      (pss_cons (ps_asg (pe_op op_fdivN (pv 3) (pv 1)) (pg_sub (pe_ix ix_list (pv 0) pe_int (fun _ _ => rfl)) (pv 2) set_list))
      (pss_one (ps_ret (pe_op op_modN (pe_callTy call_int1 (by rfl) T.z_int (by decide +kernel) (pa_cons (pv 3) pa_nil)) (pv 1)))))
      pss_nil)
      (pss_cons (ps_set (i := 4) sc__law_draw.nd rfl (.inl rfl) (pe_op op_pow (pe_op op_add (pe_op op_add (pe_op op_modN (pe_callTy call_int1 (by rfl) T.z_int (by decide +kernel) (pa_cons (pv 3) pa_nil)) pe_int) (pe_op op_mul pe_int (pe_ix ix_list (pv 0) pe_int (fun _ _ => rfl)))) pe_int) pe_int))
      (pss_one (ps_ret (pe_op op_modN (pe_callTy call_int1 (by rfl) T.z_int (by decide +kernel) (pa_cons (pe_op op_modN (pe_callTy call_int1 (by rfl) T.z_int (by decide +kernel) (pa_cons (pv 4) pa_nil)) pe_int) pa_nil)) (pv 1))))))))), ?_⟩
  obtain ⟨ne, m, ns, h1, h2, h3, h4, h5, h6⟩ := hD
  have a1 : ∀ (l : Addr) (x : V), atI [V.ref l, x] 1 = some x := fun l x => atI_nat (j := 1) rfl
  have a0 : ∀ (l : Addr) (x : V), atI [V.ref l, x] 0 = some (V.ref l) := fun l x => atI_nat (j := 0) rfl
  refine ⟨.ref D, rfl, D, _, 1, _, rfl, rfl, SqL.of h1, a1 _ _, m, 1, rfl, rfl, ?_⟩
  refine ⟨.ref D, rfl, D, _, 1, 1, rfl, rfl, h1, rfl, ?_⟩
  rw [show ([V.ref L, V.int m].set 1 (V.int (m + 1))) = [V.ref L, V.int (m + 1)] from rfl]
  have k1 : Kp [D, L] H (upd H D (.lst [V.ref L, V.int (m + 1)])) := (Kp.refl _ _).put (by simp)
  have g1 : upd H D (.lst [V.ref L, V.int (m + 1)]) D = some (.lst [V.ref L, V.int (m + 1)]) := upd_same
  have g2 : upd H D (.lst [V.ref L, V.int (m + 1)]) L = some (.lst (ns.map V.int)) := by rw [upd_ne ne.symm]; exact h2
  generalize upd H D (.lst [V.ref L, V.int (m + 1)]) = H1 at k1 g1 g2 ⊢
  have hlen : (ns.map V.int).length = ns.length := List.length_map _
  obtain ⟨mx, emx⟩ : ∃ mx : Int, mx = if ((ns.map V.int).length : Int) > 1 then ((ns.map V.int).length : Int) else 1 := ⟨_, rfl⟩
  have mx1 : 1 ≤ mx ∧ (ns.length : Int) ≤ mx ∧ (mx = 1 ∨ mx = ns.length) := by
    rw [hlen] at emx
    split at emx <;> omega
  obtain ⟨at_, eat⟩ : ∃ at_ : Int, at_ = (m + 1).fmod mx := ⟨_, rfl⟩
  have eat2 := eat
  rw [Int.fmod_eq_emod_of_nonneg _ (by omega)] at eat2
  have b0 : 0 ≤ at_ := by rw [eat2]; exact Int.emod_nonneg _ (by omega)
  have b1 : at_ < mx := by rw [eat2]; exact Int.emod_lt_of_pos _ (by omega)
  refine ⟨.ref D, rfl, D, _, 1, _, rfl, rfl, SqL.of g1, a1 _ _, .inl ⟨_, rfl, .ref D, rfl, D, _, 0, _, rfl, rfl, SqL.of g1, a0 _ _, L, _, rfl, .inl (SqL.of g2), 1, _, rfl, ?_⟩⟩
  rw [← emx]
  refine ⟨m + 1, mx, rfl, rfl, by omega, ?_⟩
  dsimp only
  rw [← eat]
  refine ⟨.ref D, rfl, D, _, 0, _, rfl, rfl, SqL.of g1, a0 _ _, line1000 (by decide), fun z nz => ?_⟩
  have s2 := Same.up (o := HO.lst [V.int 0]) nz
  have gz : upd H1 z (HO.lst [V.int 0]) z = some (.lst [V.int 0]) := upd_same
  generalize upd H1 z (HO.lst [V.int 0]) = H2 at s2 gz ⊢
  refine ⟨L, z, _, _, rfl, rfl, s2 _ _ g2, gz, line1000 (by rw [hlen]; show _ + 1 ≤ _; omega), fun y ny => ?_⟩
  have s3 := Same.up (o := HO.lst (ns.map V.int ++ [V.int 0])) ny
  have gy : upd H2 y (HO.lst (ns.map V.int ++ [V.int 0])) y = some (.lst (ns.map V.int ++ [V.int 0])) := upd_same
  generalize upd H2 y (HO.lst (ns.map V.int ++ [V.int 0])) = H3 at s3 gy ⊢
  have f1 := s3 _ _ (s2 _ _ g1)
  have f2 := s3 _ _ (s2 _ _ g2)
  have k2 : Kp [D, L] H H3 := k1.trans (Kp.same (Same.trans s2 s3))
  obtain ⟨cell, ecell⟩ : ∃ cell : Int, cell = (ns ++ [0]).getD at_.toNat 0 := ⟨_, rfl⟩
  have lt : at_.toNat < (ns ++ [0]).length := by rw [List.length_append]; show _ < ns.length + 1; omega
  have hcell : (ns ++ [0])[at_.toNat]? = some cell := by rw [ecell, List.getD_eq_getElem?_getD, List.getElem?_eq_getElem lt]; rfl
  have hat : atI (ns.map V.int ++ [V.int 0]) at_ = some (.int cell) := by
    have z := atI_nat (xs := ns.map V.int ++ [V.int 0]) (j := at_.toNat) (v := .int cell) (by rw [show ns.map V.int ++ [V.int 0] = (ns ++ [0]).map V.int by simp, List.getElem?_map, hcell]; rfl)
    rwa [show ((at_.toNat : Nat) : Int) = at_ by omega] at z
  have hc0 : 0 ≤ cell := by
    rcases List.mem_append.mp (List.mem_of_getElem? hcell) with h | h
    · exact h6 _ h
    · rw [List.mem_singleton.mp h]; decide
  have hcat : 10 ^ 18 ≤ cell → at_.toNat < ns.length := fun h => by
    by_cases c : at_.toNat < ns.length
    · exact c
    · rw [List.getElem?_append_right (by omega)] at hcell
      rcases List.mem_cons.mp (List.mem_of_getElem? hcell) with e | e
      · omega
      · cases e
  refine ⟨_, rfl, y, _, at_, _, rfl, rfl, SqL.of gy, hat, ?_⟩
  refine ⟨_, rfl, 10, 18, rfl, rfl, ⟨by omega, by omega, by decide⟩, ?_⟩
  refine ⟨_, _, rfl, rfl, _, rfl, ite2 (fun c => ?_) (fun c => ?_)⟩
  · have c18 : (10 : Int) ^ 18 ≤ cell := of_decide_eq_true c
    have b2 := hcat c18
    refine ⟨_, rfl, _, rfl, cell, many, rfl, rfl, ⟨by omega, by omega⟩, ?_⟩
    refine ⟨.ref D, rfl, D, _, 0, _, rfl, rfl, SqL.of f1, a0 _ _, .int at_, rfl, L, _, at_, at_.toNat, rfl, rfl, f2, ?_, ?_⟩
    · unfold ixN
      rw [if_pos b0, if_pos (by rw [List.length_map]; omega)]
    · refine ⟨_, rfl, .inl ⟨cell, rfl, _, rfl, cell, many, rfl, rfl, by omega, ?_⟩⟩
      dsimp only
      rw [Int.fmod_eq_emod_of_nonneg _ (by omega), Int.fdiv_eq_ediv_of_nonneg _ (by omega)]
      refine q _ _ (k2.put (by simp)) ⟨ne, m + 1, ns.set at_.toNat (cell / many), by rw [upd_ne ne]; exact f1, by rw [upd_same, List.map_set], by omega, by omega, by rw [List.length_set]; exact h5, fun x hx => ?_⟩ (Int.emod_nonneg _ (by omega)) (Int.emod_lt_of_pos _ (by omega))
      rcases List.mem_or_eq_of_mem_set hx with hx | hx
      · exact h6 x hx
      · rw [hx]
        exact Int.ediv_nonneg hc0 (by omega)
  · refine ⟨_, rfl, .inl ⟨cell, rfl, cell, 2147483587, rfl, rfl, by omega, .ref D, rfl, D, _, 1, _, rfl, rfl, SqL.of f1, a1 _ _, 7919, m + 1, rfl, rfl, .inl ⟨by omega, by omega⟩, _, _, rfl, rfl, _, 1, rfl, rfl, ?_⟩⟩
    have t1 : cell.fmod 2147483587 = cell % 2147483587 := Int.fmod_eq_emod_of_nonneg _ (by omega)
    have z1 : 0 ≤ cell % 2147483587 := Int.emod_nonneg _ (by omega)
    have z2 : cell % 2147483587 < 2147483587 := Int.emod_lt_of_pos _ (by omega)
    dsimp only
    rw [t1]
    obtain ⟨wx, ewx⟩ : ∃ wx, wx = cell % 2147483587 + 7919 * (m + 1) + 1 := ⟨_, rfl⟩
    rw [← ewx]
    refine ⟨wx, 5, rfl, rfl, ⟨by omega, by omega, by omega⟩, ?_⟩
    refine ⟨_, rfl, .inl ⟨_, rfl, _, 2147483647, rfl, rfl, by omega, .inl ⟨_, rfl, _, rfl, _, many, rfl, rfl, by omega, ?_⟩⟩⟩
    dsimp only
    rw [Int.fmod_eq_emod_of_nonneg _ (by omega : (0 : Int) ≤ many)]
    exact q _ _ k2 ⟨ne, m + 1, ns, f1, f2, by omega, by omega, h5, h6⟩ (Int.emod_nonneg _ (by omega)) (Int.emod_lt_of_pos _ (by omega))
end
end G

set_option Elab.async false
set_option linter.all false
set_option maxRecDepth 100000
set_option maxHeartbeats 4000000
namespace G
open PySem PySem.Spec PyProof.Rows L2
abbrev s__law_one : Stmt := top 14
abbrev n__law_one : List Str := ["_law_deck_here", "_law_items"]
theorem sc__law_one : FnScope n__law_one ["_law_deck_here", "_law_items"] (defScope s__law_one) := ⟨rfl, rfl, rfl, by decide +kernel, rfl, by decide +kernel, by decide +kernel⟩
/-- one of the items of a list (that is no part of the deck), of a tuple, or one sign of a text -/
def spOne (K : PySem.W.Frag) : Sp := fun vs H Q _ => ∃ (D L : Addr) (n : Nat) (v : V), vs = [.ref D, v] ∧ Deck H D L n ∧ n < 10 ^ 12 ∧
  ((∃ (a : Addr) (xs : List V), v = .ref a ∧ ((SqL K H a xs ∧ a ∉ [D, L]) ∨ (SqT K H a xs ∧ a ∉ [D, L])) ∧ 0 < xs.length ∧ xs.length ≤ 1000 ∧ ∀ H' y, Kp [D, L] H H' → Deck H' D L (n + 1) → y ∈ xs → Q y H') ∨
   (∃ z : Str, v = .str z ∧ 0 < z.length ∧ z.length ≤ 1000 ∧ ∀ H' c, Kp [D, L] H H' → Deck H' D L (n + 1) → c ∈ z.cps.toList → Q (.str ⟨#[c]⟩) H'))
theorem Kp.seqT {K : PySem.W.Frag} {S : List Addr} {a : Addr} {H H' : Hp} {xs : List V} (k : Kp S H H') (d : a ∉ S) (h : SqT K H a xs) : SqT K H' a xs := by
  rcases h with (h | ⟨o, h⟩) | h
  · exact .inl (.inl (k _ _ d h))
  · exact .inl (.inr ⟨o, k _ _ d h⟩)
  · exact .inr h
theorem atI_in {α : Type} {xs : List α} {r : Int} (h0 : 0 ≤ r) (h1 : r < (xs.length : Int)) : ∃ y, atI xs r = some y ∧ y ∈ xs := by
  have b : r.toNat < xs.length := by omega
  refine ⟨xs[r.toNat], ?_, List.getElem_mem b⟩
  have z := atI_nat (xs := xs) (j := r.toNat) (v := xs[r.toNat]) (List.getElem?_eq_getElem b)
  rwa [show ((r.toNat : Nat) : Int) = r by omega] at z
section
variable {P : Program} {w : World} {K : PySem.W.Frag} {mg : Str → Option Value} {base : Heap}
theorem ok_one {f f1 : Addr} {fd fd1 : FuncData} {k : Nat} (F : Fun K "_law_one" "_law_one" s__law_one f fd) (T : Bi mg) (G1 : FnOk P w K mg base CX0 k f1 fd1 ["_law_deck_here", "_law_many"] spDraw) (k1 : PySem.W.keepIn K (.ref f1) = true)
    (b1 : Binds K fd1 ["_law_deck_here", "_law_many"] []) (m1 : mg "_law_draw" = some (.ref f1)) : FnOk P w K mg base CX0 (k + 1) f fd ["_law_deck_here", "_law_items"] (spOne K) := by
  refine F.ok sc__law_one (fun vs H Q E h => ?_) (fun cdv A outer s H vs Q E hr h => ?_)
  · obtain ⟨D, L, n, v, rfl, _⟩ := h
    rfl
  obtain ⟨D, L, n, v, rfl, hD, hn, h⟩ := h
  refine ⟨_, (pss_one (ps_ret (pe_ix ix_seq (pv 1) (pe_call G1 hr (by rfl) m1 k1 b1 .nil pass0 (pa_cons (pv 0) (pa_cons (pe_callB call_len (by rfl) T.z_len (by decide +kernel) (pa_cons (pv 1) pa_nil)) pa_nil))) (fun _ _ => rfl)))), ?_⟩
  rcases h with ⟨a, xs, rfl, h, h0, hz, q⟩ | ⟨z, rfl, h0, hz, q⟩
  · refine ⟨.ref a, rfl, .ref D, rfl, .ref a, rfl, .ref a, xs.length, rfl, ?_, D, L, n, _, rfl, hD, hn, by omega, by omega, fun H' r kp hD' r0 r1 => ?_⟩
    · rcases h with h | h
      · exact .inl ⟨xs, h.1, rfl⟩
      · exact .inr ⟨xs, h.1, rfl⟩
    · obtain ⟨y, ey, hy⟩ := atI_in r0 r1
      rcases h with h | h
      · exact .inl ⟨a, xs, r, y, rfl, rfl, kp.seq h.2 h.1, ey, q H' y kp hD' hy⟩
      · exact .inr (.inl ⟨a, xs, r, y, rfl, rfl, kp.seqT h.2 h.1, ey, q H' y kp hD' hy⟩)
  · refine ⟨.str z, rfl, .ref D, rfl, .str z, rfl, .str z, z.length, rfl, ⟨line1000 hz, rfl⟩, D, L, n, _, rfl, hD, hn, by omega, by omega, fun H' r kp hD' r0 r1 => ?_⟩
    obtain ⟨c, ec, hc⟩ := atI_in (xs := z.cps.toList) r0 (by rw [Array.length_toList]; exact r1)
    exact .inr (.inr ⟨z, r, c, rfl, rfl, line1000 hz, ec, q H' c kp hD' hc⟩)
end
end G

set_option Elab.async false
set_option linter.all false
set_option maxRecDepth 100000
set_option maxHeartbeats 4000000
/-! Programs as data, drawn: names, tests, statements. -/
namespace G
open PySem PySem.Spec PyProof.Rows L2
structure Df (K : PySem.W.Frag) (mg : Str → Option Value) (x : Str) (st : Stmt) (ps : List Str) (f : Addr) (fd : FuncData) : Prop where
  F : Fun K x x st f fd
  b : Binds K fd ps []
  m : mg x = some (.ref f)
mutual
inductive TD (H : Hp) : V → PyData → Prop
  | non : TD H .non .none
  | bl (b : Bool) : TD H (.bl b) (.bool b)
  | int (i : Int) : TD H (.int i) (.int i)
  | str (x : Str) : TD H (.str x) (.str x)
  | tup {a : Addr} {xs : List V} {ds : List PyData} : H a = some (.tup xs) → TDs H xs ds → TD H (.ref a) (.tuple ds)
inductive TDs (H : Hp) : List V → List PyData → Prop
  | nil : TDs H [] []
  | cons {v : V} {vs : List V} {d : PyData} {ds : List PyData} : TD H v d → TDs H vs ds → TDs H (v :: vs) (d :: ds)
end
mutual
theorem TD.ch {S : List Addr} {H H' : Hp} (c : Ch S H H') : ∀ (d : PyData) (v : V), TD H v d → TD H' v d
  | .none, _, h => by cases h; exact .non
  | .bool b, _, h => by cases h; exact .bl b
  | .int i, _, h => by cases h; exact .int i
  | .str x, _, h => by cases h; exact .str x
  | .list ds, _, h => nomatch h
  | .tuple ds, _, h => by
    cases h with
    | tup h1 h2 => exact .tup (c.tu _ _ h1) (TDs.ch c ds _ h2)
  | .dict _, _, h => nomatch h
theorem TDs.ch {S : List Addr} {H H' : Hp} (c : Ch S H H') : ∀ (ds : List PyData) (vs : List V), TDs H vs ds → TDs H' vs ds
  | [], _, h => by cases h; exact .nil
  | d :: ds, _, h => by
    cases h with
    | cons h1 h2 => exact .cons (TD.ch c d _ h1) (TDs.ch c ds _ h2)
end
theorem TDs.snoc {H : Hp} : ∀ {vs : List V} {ds : List PyData} {v : V} {d : PyData}, TDs H vs ds → TD H v d → TDs H (vs ++ [v]) (ds ++ [d])
  | _, _, _, _, .nil, h => .cons h .nil
  | _, _, _, _, .cons h1 h2, h => .cons h1 (h2.snoc h)
theorem TDs.append {H : Hp} : ∀ {a : List V} {da : List PyData} {b : List V} {db : List PyData}, TDs H a da → TDs H b db → TDs H (a ++ b) (da ++ db)
  | _, _, _, _, .nil, h => h
  | _, _, _, _, .cons h1 h2, h => .cons h1 (h2.append h)
theorem TDs.len {H : Hp} : ∀ {vs : List V} {ds : List PyData}, TDs H vs ds → vs.length = ds.length
  | _, _, .nil => rfl
  | _, _, .cons _ t => by rw [List.length_cons, List.length_cons, t.len]
theorem TDs.mem {H : Hp} : ∀ {vs : List V} {ds : List PyData}, TDs H vs ds → ∀ v ∈ vs, ∃ d ∈ ds, TD H v d
  | _, _, .nil, v, h => nomatch h
  | _, _, .cons h1 h2, v, h => by
    rcases List.mem_cons.mp h with rfl | h
    · exact ⟨_, List.mem_cons_self .., h1⟩
    · obtain ⟨d, hd, t⟩ := h2.mem v h
      exact ⟨d, List.mem_cons_of_mem _ hd, t⟩
/-! ### on paper -/
inductive Tst
  | given (i : Nat)
  | set (x : Str)
  | same (x y : Str)
  | full (x f : Str)
  | wished (w : Str)
  | not (t : Tst)
def Tst.depth : Tst → Nat
  | .not t => t.depth + 1
  | _ => 0
def Tst.data : Tst → PyData
  | .given i => .tuple [.str "given", .int i]
  | .set x => .tuple [.str "set", .str x]
  | .same x y => .tuple [.str "same", .str x, .str y]
  | .full x f => .tuple [.str "full", .str x, .str f]
  | .wished w => .tuple [.str "wished", .str w]
  | .not t => .tuple [.str "not", t.data]
inductive Act
  | make (x : Str)
  | wish (x w : Str)
  | keep (x : Str)
  | name (x y : Str)
  | drop (x : Str)
  | hold (x f y : Str)
  | weak (x f y : Str)
  | cut (x f : Str)
  | take (z x f : Str)
  | say (w : Str)
  | ask (t : Tst)
def Act.data : Act → PyData
  | .make x => .tuple [.str "make", .str x]
  | .wish x w => .tuple [.str "wish", .str x, .str w]
  | .keep x => .tuple [.str "keep", .str x]
  | .name x y => .tuple [.str "name", .str x, .str y]
  | .drop x => .tuple [.str "drop", .str x]
  | .hold x f y => .tuple [.str "hold", .str x, .str f, .str y]
  | .weak x f y => .tuple [.str "weak", .str x, .str f, .str y]
  | .cut x f => .tuple [.str "cut", .str x, .str f]
  | .take z x f => .tuple [.str "take", .str z, .str x, .str f]
  | .say w => .tuple [.str "say", .str w]
  | .ask t => .tuple [.str "ask", t.data]
inductive Sta
  | act (a : Act)
  | cond (t : Tst) (y n : List Sta)
  | rep (k : Nat) (b : List Sta)
mutual
def Sta.data : Sta → PyData
  | .act a => a.data
  | .cond t y n => .tuple [.str "if", t.data, .tuple (blkData y), .tuple (blkData n)]
  | .rep k b => .tuple [.str "repeat", .int k, .tuple (blkData b)]
def blkData : List Sta → List PyData
  | [] => []
  | s :: r => s.data :: blkData r
end
theorem blkData_eq : ∀ b : List Sta, blkData b = b.map Sta.data
  | [] => rfl
  | s :: r => by
    show s.data :: blkData r = _
    rw [blkData_eq r]
    rfl
mutual
def Sta.size : Sta → Nat
  | .act _ => 1
  | .cond _ y n => 1 + (sizeB y + sizeB n)
  | .rep _ b => 1 + sizeB b
def sizeB : List Sta → Nat
  | [] => 0
  | s :: r => s.size + sizeB r
end
theorem sizeB_snoc (s : Sta) : ∀ b : List Sta, sizeB (b ++ [s]) = sizeB b + s.size
  | [] => by show s.size + 0 = 0 + s.size; omega
  | x :: r => by
    show x.size + sizeB (r ++ [s]) = x.size + sizeB r + s.size
    rw [sizeB_snoc s r]; omega
/-- a drawn text: short, of Unicode's signs -/
def Nm (x : Str) : Prop := x.length ≤ 8 ∧ OkS x
def Tst.nm : Tst → Prop
  | .given i => i < 4
  | .set x => Nm x
  | .same x y => Nm x ∧ Nm y
  | .full x y => Nm x ∧ Nm y
  | .wished x => Nm x
  | .not t => t.nm
def Tst.ok (t : Tst) : Prop := t.nm ∧ t.depth ≤ 3
def Act.nm : Act → Prop
  | .make x => Nm x
  | .wish x w => Nm x ∧ Nm w
  | .keep x => Nm x
  | .name x y => Nm x ∧ Nm y
  | .drop x => Nm x
  | .hold x f y => Nm x ∧ Nm f ∧ Nm y
  | .weak x f y => Nm x ∧ Nm f ∧ Nm y
  | .cut x f => Nm x ∧ Nm f
  | .take z x f => Nm z ∧ Nm x ∧ Nm f
  | .say w => Nm w
  | .ask t => t.ok
/-- statements so deep at most -/
def StaOk : Nat → Sta → Prop
  | _, .act a => a.nm
  | 0, _ => False
  | d + 1, .cond t y n => t.ok ∧ (∀ s ∈ y, StaOk d s) ∧ ∀ s ∈ n, StaOk d s
  | d + 1, .rep k b => k < 13 ∧ ∀ s ∈ b, StaOk d s
/-! ### texts that grow -/
theorem join_len (ys : List Str) (B : Nat) (h : ∀ y ∈ ys, y.length ≤ B) : (Txt.join "" ys).length ≤ ys.length * B := by
  rw [TL.join_eq]
  induction ys with
  | nil => exact Nat.zero_le _
  | cons y r ih =>
    have ih := ih fun z hz => h z (List.mem_cons_of_mem _ hz)
    have hy := h y (List.mem_cons_self ..)
    cases r with
    | nil =>
      show y.length ≤ 1 * B
      omega
    | cons z r =>
      show (y ++ ("" : Str) ++ Str.join "" (z :: r)).length ≤ ((z :: r).length + 1) * B
      rw [strLen_append, strLen_append, Nat.add_mul, Nat.one_mul]
      have e0 : ("" : Str).length = 0 := rfl
      omega
theorem sum_le (ys : List Str) (B : Nat) (h : ∀ y ∈ ys, y.length ≤ B) : (ys.map (·.length)).sum ≤ ys.length * B := by
  induction ys with
  | nil => exact Nat.zero_le _
  | cons y r ih =>
    have ih := ih fun z hz => h z (List.mem_cons_of_mem _ hz)
    have hy := h y (List.mem_cons_self ..)
    rw [List.map_cons, List.sum_cons, List.length_cons, Nat.add_mul, Nat.one_mul]
    omega
theorem join0_ok (ys : List Str) (h : ∀ y ∈ ys, OkS y) : OkS (Txt.join "" ys) := by
  rw [TL.join_eq]
  induction ys with
  | nil => exact OkS.of ""
  | cons y r ih =>
    have ih := ih fun z hz => h z (List.mem_cons_of_mem _ hz)
    have hy := h y (List.mem_cons_self ..)
    cases r with
    | nil => exact hy
    | cons z r => exact (hy.app (OkS.of "")).app ih
theorem sign_ok {c : Nat} {s : String} (h : c ∈ (Str.ofString s).cps.toList) : OkS ⟨#[c]⟩ := fun x hx => by
  have e : x = c := by simpa using hx
  rw [e]
  exact OkS.of s c h
/-- a new list of texts grows at a, one a turn, each turn takes at most c numbers of the deck -/
def GrowS (D L a : Addr) (H1 : Hp) (m c B : Nat) (i : Nat) (H' : Hp) : Prop := ∃ ys : List Str, Ch [a, D, L] H1 H' ∧ Deck H' D L (m + i * c) ∧ H' a = some (.lst (ys.map V.str)) ∧ ys.length = i ∧ ∀ y ∈ ys, y.length ≤ B ∧ OkS y
theorem GrowS.start {D L a : Addr} {H1 : Hp} {m c B : Nat} (d : Deck H1 D L m) (na : H1 a = none) : GrowS D L a H1 m c B 0 (upd H1 a (.lst [])) :=
  ⟨[], (Ch.refl _ _).new na, (d.new na).mono (by omega), upd_same, rfl, fun _ z => nomatch z⟩
theorem GrowS.step {D L a : Addr} {H1 H' H4 : Hp} {m c B i : Nat} {y : Str} (g : GrowS D L a H1 m c B i H') (hi : i < 1000) (kp : Ch [D, L] H' H4) (d : Deck H4 D L (m + i * c + c)) (ne : a ∉ [D, L]) (hy : y.length ≤ B) (ho : OkS y) :
    ∃ acc, H4 a = some (.lst acc) ∧ acc.length < sizeLine ∧ GrowS D L a H1 m c B (i + 1) (upd H4 a (.lst (acc ++ [.str y]))) := by
  obtain ⟨ys, k0, d0, ha, hl, hb⟩ := g
  have ne1 : a ≠ D := fun z => ne (by simp [z])
  have ne2 : a ≠ L := fun z => ne (by simp [z])
  have ha4 := kp.kp _ _ ne ha
  refine ⟨_, ha4, by rw [List.length_map, hl]; exact small1000 (by omega), ys ++ [y], (k0.trans (kp.mono fun b hb => List.mem_cons_of_mem _ hb)).put (by simp) ha4 (fun xs z => by cases z), ?_, ?_, by rw [List.length_append, hl]; rfl, fun z hz => ?_⟩
  · refine Deck.mono (n := m + i * c + c) ?_ (by rw [Nat.add_mul]; omega)
    exact d.kp (S := [a]) ((Kp.refl _ _).put (by simp)) (by simpa using ne1.symm) (by simpa using ne2.symm)
  · rw [upd_same, List.map_append]
    rfl
  · rcases List.mem_append.mp hz with hz | hz
    · exact hb z hz
    · rw [List.mem_singleton.mp hz]
      exact ⟨hy, ho⟩
theorem deck_ch {H H' : Hp} {D L : Addr} {n n' : Nat} (d : Deck H D L n) (d' : Deck H' D L n') (k : Kp [D, L] H H') : Ch [D, L] H H' := by
  obtain ⟨ne, m, ns, h1, h2, _⟩ := d
  obtain ⟨_, m', ns', g1, g2, _⟩ := d'
  refine ⟨k, fun b xs e => ?_, fun b o e => ?_⟩
  · refine k _ _ (fun z => ?_) e
    rcases List.mem_cons.mp z with rfl | z
    · rw [h1] at e; cases e
    · rw [List.mem_singleton.mp z, h2] at e; cases e
  · by_cases z : b ∈ [D, L]
    · rcases List.mem_cons.mp z with rfl | z
      · exact ⟨_, g1⟩
      · rw [List.mem_singleton.mp z]; exact ⟨_, g2⟩
    · exact ⟨o, k _ _ z e⟩
def rAddE : R2 := fun x y H Q => ∃ i j, x = .int i ∧ y = .int j ∧ ∀ z, z = i + j → Q (.int z) H
theorem op_addE {X : Cx} : OpR X (binaryOp .Add) rAddE := by
  intro pins s σ H x y v u Q I rx ry h
  obtain ⟨i, j, rfl, rfl, q⟩ := h
  exact op_add pins s σ H _ _ v u Q I rx ry ⟨i, j, rfl, rfl, q _ rfl⟩
end G

set_option Elab.async false
set_option linter.all false
set_option maxRecDepth 100000
set_option maxHeartbeats 4000000
/-! A dict of lists of numbers, made by setdefault and append. -/
namespace G
open PySem PySem.Spec PyProof.Rows L2
theorem lt_line {n : Nat} (h : n < 1000000) : n < sizeLine := Nat.lt_of_lt_of_le h (by rw [sizeLine_eq]; decide)
theorem Same.putN {H H' : Hp} {L : Addr} {o : HO} (s : Same H H') (h : H L = none) : Same H (upd H' L o) := (((Kp.same (S := [L]) s).put (by simp)).fresh h).toSame
def intsN (l : List Nat) : List V := l.map fun (c : Nat) => V.int (c : Int)
abbrev HolE := Nat × Addr × List Nat
def holK (hs : List HolE) : List (Key × V) := hs.map fun x => (kN x.1, V.ref x.2.1)
def lookH (hs : List HolE) (d : Nat) : List Nat := ((hs.find? fun x => decide (x.1 = d)).map fun x => x.2.2).getD []
/-- a dict of lists, all of them new -/
structure HolAt (H0 H : Hp) (D : Addr) (hs : List HolE) : Prop where
  d : H D = some (.dK (holK hs))
  l : ∀ x ∈ hs, H x.2.1 = some (.lst (intsN x.2.2)) ∧ H0 x.2.1 = none
  nd : (hs.map fun x => x.2.1).Nodup
  nk : (hs.map fun x => x.1).Nodup
theorem holK_val (hs : List HolE) (d : Nat) : valV (holK hs) (kN d) = (hs.find? fun x => decide (x.1 = d)).map fun x => V.ref x.2.1 := by
  induction hs with
  | nil => rfl
  | cons x r ih =>
    by_cases h : x.1 = d
    · rw [show holK (x :: r) = (kN x.1, V.ref x.2.1) :: holK r from rfl, valV_pos (by rw [h])]
      simp [List.find?_cons, h]
    · rw [show holK (x :: r) = (kN x.1, V.ref x.2.1) :: holK r from rfl, valV_neg (fun z => h (kN_inj _ _ z)), ih]
      simp [List.find?_cons, h]
theorem HolAt.same {H0 H H' : Hp} {D : Addr} {hs : List HolE} (h : HolAt H0 H D hs) (s : Same H H') : HolAt H0 H' D hs :=
  ⟨s _ _ h.d, fun x hx => ⟨s _ _ (h.l x hx).1, (h.l x hx).2⟩, h.nd, h.nk⟩
/-- c is put behind d's -/
def addH : List HolE → Nat → Nat → List HolE
  | [], _, _ => []
  | x :: r, d, c => if x.1 = d then (x.1, x.2.1, x.2.2 ++ [c]) :: r else x :: addH r d c
theorem addH_keys : ∀ (hs : List HolE) (d c : Nat), (addH hs d c).map (fun x => (x.1, x.2.1)) = hs.map fun x => (x.1, x.2.1)
  | [], _, _ => rfl
  | x :: r, d, c => by
    unfold addH
    split
    · rfl
    · rw [List.map_cons, List.map_cons, addH_keys r d c]
theorem addH_look : ∀ (hs : List HolE) (d c : Nat), (hs.find? fun x => decide (x.1 = d)).isSome = true → ∀ e, lookH (addH hs d c) e = if e = d then lookH hs d ++ [c] else lookH hs e
  | [], _, _, h, _ => by cases h
  | x :: r, d, c, h, e => by
    by_cases hx : x.1 = d
    · subst hx
      unfold addH
      rw [if_pos rfl]
      by_cases he : e = x.1
      · subst he
        simp [lookH, List.find?_cons]
      · have : ¬ x.1 = e := fun z => he z.symm
        simp [lookH, List.find?_cons, this, he]
    · unfold addH
      rw [if_neg hx]
      have h' : (r.find? fun x => decide (x.1 = d)).isSome = true := by simpa [List.find?_cons, hx] using h
      have ih := addH_look r d c h' e
      by_cases he : x.1 = e
      · have : ¬ e = d := fun z => hx (he.trans z)
        simp [lookH, List.find?_cons, he, this]
      · have e1 : lookH (x :: addH r d c) e = lookH (addH r d c) e := by simp [lookH, List.find?_cons, he]
        have e2 : lookH (x :: r) e = lookH r e := by simp [lookH, List.find?_cons, he]
        have e3 : lookH (x :: r) d = lookH r d := by simp [lookH, List.find?_cons, hx]
        rw [e1, e2, e3]
        exact ih
theorem lookH_snoc (hs : List HolE) (d c : Nat) (q : Addr) (h : (hs.find? fun x => decide (x.1 = d)) = none) (e : Nat) : lookH (hs ++ [(d, q, [c])]) e = if e = d then lookH hs d ++ [c] else lookH hs e := by
  by_cases he : e = d
  · subst he
    simp [lookH, List.find?_append, h]
  · have : ¬ d = e := fun z => he z.symm
    simp [lookH, List.find?_append, this, he]
theorem mem_addH {hs : List HolE} {d c : Nat} {x : HolE} (h : x ∈ addH hs d c) : x ∈ hs ∨ ∃ y ∈ hs, y.1 = d ∧ x = (y.1, y.2.1, y.2.2 ++ [c]) := by
  induction hs with
  | nil => cases h
  | cons y r ih =>
    unfold addH at h
    split at h
    · rename_i e
      rcases List.mem_cons.mp h with rfl | h
      · exact .inr ⟨y, List.mem_cons_self .., e, rfl⟩
      · exact .inl (List.mem_cons_of_mem _ h)
    · rcases List.mem_cons.mp h with rfl | h
      · exact .inl (List.mem_cons_self ..)
      · rcases ih h with h | ⟨z, hz, e, ex⟩
        · exact .inl (List.mem_cons_of_mem _ h)
        · exact .inr ⟨z, List.mem_cons_of_mem _ hz, e, ex⟩
theorem nd_inj {α β : Type} {f : α → β} {l : List α} (h : (l.map f).Nodup) {x y : α} (hx : x ∈ l) (hy : y ∈ l) (e : f x = f y) : x = y := by
  induction l with
  | nil => cases hx
  | cons z r ih =>
    rw [List.map_cons, List.nodup_cons] at h
    rcases List.mem_cons.mp hx with ex | hx1
    · rcases List.mem_cons.mp hy with ey | hy1
      · rw [ex, ey]
      · rw [ex] at e
        exact absurd (List.mem_map.mpr ⟨y, hy1, e.symm⟩) h.1
    · rcases List.mem_cons.mp hy with ey | hy1
      · rw [ey] at e
        exact absurd (List.mem_map.mpr ⟨x, hx1, e⟩) h.1
      · exact ih h.2 hx1 hy1
theorem mem_addH' {hs : List HolE} (nk : (hs.map fun x => x.1).Nodup) {d c : Nat} {y x : HolE} (h : y ∈ addH hs d c) (hx : x ∈ hs) (hxe : x.1 = d) : (y ∈ hs ∧ y ≠ x) ∨ y = (x.1, x.2.1, x.2.2 ++ [c]) := by
  induction hs with
  | nil => cases h
  | cons z r ih =>
    have nk' := nk
    rw [List.map_cons, List.nodup_cons] at nk'
    unfold addH at h
    split at h
    · rename_i e
      have ezx : z = x := nd_inj nk (List.mem_cons_self ..) hx (e.trans hxe.symm)
      rcases List.mem_cons.mp h with h | h
      · rw [h, ezx]
        exact .inr rfl
      · refine .inl ⟨List.mem_cons_of_mem _ h, fun w => ?_⟩
        rw [w, ← ezx] at h
        exact nk'.1 (List.mem_map.mpr ⟨z, h, rfl⟩)
    · rename_i e
      have hxr : x ∈ r := by
        rcases List.mem_cons.mp hx with rfl | hx
        · exact absurd hxe e
        · exact hx
      rcases List.mem_cons.mp h with h | h
      · rw [h]
        exact .inl ⟨List.mem_cons_self .., fun w => e (by rw [w]; exact hxe)⟩
      · rcases ih nk'.2 h hxr with ⟨h1, h2⟩ | h1
        · exact .inl ⟨List.mem_cons_of_mem _ h1, h2⟩
        · exact .inr h1
theorem HolAt.find {H0 H : Hp} {D : Addr} {hs : List HolE} (h : HolAt H0 H D hs) {e : Nat} {v : V} (hv : valV (holK hs) (kN e) = some v) : ∃ x, (hs.find? fun x => decide (x.1 = e)) = some x ∧ v = .ref x.2.1 ∧ x ∈ hs ∧ x.1 = e ∧ lookH hs e = x.2.2 := by
  rw [holK_val] at hv
  obtain ⟨x, hx, rfl⟩ := Option.map_eq_some_iff.mp hv
  have h1 := List.mem_of_find?_eq_some hx
  have h2 : x.1 = e := by simpa using List.find?_some hx
  exact ⟨x, hx, rfl, h1, h2, by unfold lookH; rw [hx]; rfl⟩
theorem hol_set {H H3 : Hp} {D q0 : Addr} {hs : List HolE} {e i : Nat} {R : Hp → Prop} (hA : HolAt H H3 D hs) (s3 : Same H H3) (nq : H3 q0 = none) (nD : H D = none) (n1 : hs.length ≤ 1000) (n2 : (lookH hs e).length ≤ 1000)
    (q : ∀ H' hs', Same H H' → HolAt H H' D hs' → (∀ f, lookH hs' f = if f = e then lookH hs e ++ [i] else lookH hs f) → (∀ x ∈ hs', x.1 = e ∨ ∃ y ∈ hs, y.1 = x.1) → R H') :
    upd H3 q0 (HO.lst []) D = some (.dK (holK hs)) ∧ (holK hs).length < sizeLine ∧
    (∀ v, valV (holK hs) (kN e) = some v → ∃ (x : Addr) (xs : List Nat), v = .ref x ∧ upd H3 q0 (HO.lst []) x = some (.lst (intsN xs)) ∧ xs.length ≤ 1000 ∧ R (upd (upd H3 q0 (HO.lst [])) x (.lst (intsN xs ++ [V.int (i : Int)])))) ∧
    (valV (holK hs) (kN e) = none → upd (upd H3 q0 (HO.lst [])) D (.dK (putK (holK hs) (kN e) (V.ref q0))) q0 = some (.lst []) ∧ R (upd (upd (upd H3 q0 (HO.lst [])) D (.dK (putK (holK hs) (kN e) (V.ref q0)))) q0 (.lst [V.int (i : Int)]))) := by
  have s4 := Same.up (o := HO.lst []) nq
  have gq0 : upd H3 q0 (HO.lst []) q0 = some (.lst []) := upd_same
  have nq0H : H q0 = none := by
    cases ez : H q0 with
    | none => rfl
    | some o => rw [s3 _ _ ez] at nq; cases nq
  have q0D : q0 ≠ D := fun z => by rw [z, hA.d] at nq; cases nq
  have q0x : ∀ x ∈ hs, x.2.1 ≠ q0 := fun x hx z => by rw [← z, (hA.l x hx).1] at nq; cases nq
  generalize upd H3 q0 (HO.lst []) = H4 at s4 gq0 ⊢
  have hA4 := hA.same s4
  refine ⟨hA4.d, ?_, fun v hv => ?_, fun hv => ?_⟩
  · unfold holK
    rw [List.length_map]
    exact lt_line (by omega)
  · obtain ⟨x, hx, rfl, hxm, hxe, hlk⟩ := hA4.find hv
    obtain ⟨gx, nx⟩ := hA4.l x hxm
    have nxD : D ≠ x.2.1 := fun z => by rw [← z, hA4.d] at gx; cases gx
    refine ⟨x.2.1, x.2.2, rfl, gx, by rw [← hlk]; exact n2, q _ (addH hs e i) (G.Same.putN (Same.trans s3 s4) nx) ⟨?_, fun y hy => ?_, ?_, ?_⟩ (addH_look hs e i (by rw [hx]; rfl)) fun y hy => ?_⟩
    · rw [upd_ne nxD, hA4.d]
      congr 2
      have z2 := congrArg (List.map fun (q : Nat × Addr) => (kN q.1, V.ref q.2)) (addH_keys hs e i)
      rw [List.map_map, List.map_map] at z2
      exact z2.symm
    · rcases mem_addH' hA.nk hy hxm hxe with ⟨hy, hne⟩ | rfl
      · have n2 : y.2.1 ≠ x.2.1 := fun z => hne (nd_inj hA.nd hy hxm z)
        exact ⟨by rw [upd_ne n2]; exact (hA4.l y hy).1, (hA4.l y hy).2⟩
      · refine ⟨?_, nx⟩
        show upd H4 x.2.1 _ x.2.1 = _
        rw [upd_same]
        unfold intsN
        rw [List.map_append]
        rfl
    · have z := congrArg (List.map Prod.snd) (addH_keys hs e i)
      rw [List.map_map, List.map_map] at z
      have z2 : (addH hs e i).map (fun x => x.2.1) = hs.map fun x => x.2.1 := z
      rw [z2]
      exact hA.nd
    · have z := congrArg (List.map Prod.fst) (addH_keys hs e i)
      rw [List.map_map, List.map_map] at z
      have z2 : (addH hs e i).map (fun x => x.1) = hs.map fun x => x.1 := z
      rw [z2]
      exact hA.nk
    · rcases mem_addH hy with hy | ⟨z, hz, _, rfl⟩
      · exact .inr ⟨y, hy, rfl⟩
      · exact .inr ⟨z, hz, rfl⟩
  · have hnf : (hs.find? fun x => decide (x.1 = e)) = none := by
      rw [holK_val] at hv
      simpa using hv
    rw [putK_new _ hv]
    have gD5 : upd H4 D (.dK (holK hs ++ [(kN e, V.ref q0)])) D = some (.dK (holK hs ++ [(kN e, V.ref q0)])) := upd_same
    have xD : ∀ x ∈ hs, x.2.1 ≠ D := fun x hx z => by
      have g := (hA4.l x hx).1
      rw [z, hA4.d] at g
      cases g
    refine ⟨by rw [upd_ne q0D]; exact gq0, q _ (hs ++ [(e, q0, [i])]) (G.Same.putN (Same.putN (Same.trans s3 s4) nD) nq0H) ⟨?_, fun y hy => ?_, ?_, ?_⟩ (lookH_snoc hs e i q0 hnf) fun y hy => ?_⟩
    · rw [upd_ne (Ne.symm q0D), gD5]
      unfold holK
      rw [List.map_append]
      rfl
    · rcases List.mem_append.mp hy with hy | hy
      · rw [upd_ne (q0x y hy), upd_ne (xD y hy)]
        exact hA4.l y hy
      · rw [List.mem_singleton.mp hy]
        exact ⟨upd_same, nq0H⟩
    · rw [List.map_append]
      exact List.nodup_append.mpr ⟨hA.nd, by simp, fun x hx y hy z => by
        obtain ⟨u, hu, rfl⟩ := List.mem_map.mp hx
        have : y = q0 := by simpa using hy
        exact q0x u hu (z.trans this)⟩
    · rw [List.map_append]
      refine List.nodup_append.mpr ⟨hA.nk, by simp, fun x hx y hy z => ?_⟩
      obtain ⟨u, hu, rfl⟩ := List.mem_map.mp hx
      have : y = e := by simpa using hy
      have z3 := List.find?_eq_none.mp hnf u hu
      exact z3 (decide_eq_true (z.trans this))
    · rcases List.mem_append.mp hy with hy | hy
      · exact .inr ⟨y, hy, rfl⟩
      · rw [List.mem_singleton.mp hy]
        exact .inl rfl
end G

set_option Elab.async false
set_option linter.all false
set_option maxRecDepth 100000
set_option maxHeartbeats 4000000
/-! Views, on paper and on the heap; _unreached. -/
namespace G
open PySem PySem.Spec PyProof.Rows L2
structure VR where
  c : Nat
  st : Bool
  re : Bool
  hs : List Nat
def intD (l : List Nat) : List PyData := l.map fun (c : Nat) => .int (c : Int)
def VR.data (r : VR) : PyData := .tuple [.int (r.c : Int), .bool r.st, .bool r.re, .tuple (intD r.hs)]
def viewD (m p : Int) (rows : List VR) : PyData := .tuple [.int m, .int p, .tuple (rows.map VR.data)]
structure GoodV (rows : List VR) : Prop where
  nd : (rows.map VR.c).Nodup
  len : rows.length ≤ 8
  so : (rows.map VR.c).Pairwise (· < ·)
  hs : ∀ r ∈ rows, r.hs.Nodup ∧ ∀ h ∈ r.hs, h ∈ rows.map VR.c
def unre (rows : List VR) : List Nat := (rows.filter fun r => !r.re).map VR.c
theorem td_tup {H : Hp} {v : V} {ds : List PyData} (h : TD H v (.tuple ds)) : ∃ a xs, v = .ref a ∧ H a = some (.tup xs) ∧ TDs H xs ds := by
  cases h with
  | tup h1 h2 => exact ⟨_, _, rfl, h1, h2⟩
theorem tds_cons {H : Hp} {vs : List V} {d : PyData} {ds : List PyData} (h : TDs H vs (d :: ds)) : ∃ v r, vs = v :: r ∧ TD H v d ∧ TDs H r ds := by
  cases h with
  | cons h1 h2 => exact ⟨_, _, rfl, h1, h2⟩
theorem TDs.at {H : Hp} : ∀ {vs : List V} {ds : List PyData} {i : Nat} {v : V}, TDs H vs ds → vs[i]? = some v → ∃ d, ds[i]? = some d ∧ TD H v d
  | _, _, _, _, .nil, h => by cases h
  | _, _, 0, _, .cons a _, h => by cases h; exact ⟨_, rfl, a⟩
  | _, _, i + 1, _, .cons _ t, h => t.at (i := i) h
theorem tds_ints {H : Hp} : ∀ {l : List Nat} {xs : List V}, TDs H xs (intD l) → xs = intsN l
  | [], xs, h => by cases h; rfl
  | c :: r, xs, h => by
    have h : TDs H xs (.int (c : Int) :: intD r) := h
    obtain ⟨v, ys, rfl, d, e⟩ := tds_cons h
    cases d
    rw [tds_ints e]
    rfl
theorem ints_tds {H : Hp} : ∀ l : List Nat, TDs H (intsN l) (intD l)
  | [] => .nil
  | c :: r => .cons (.int _) (ints_tds r)
theorem view_at {H : Hp} {v : V} {m p : Int} {rows : List VR} (td : TD H v (viewD m p rows)) : ∃ r rr rvs, v = .ref r ∧ H r = some (.tup [.int m, .int p, .ref rr]) ∧ H rr = some (.tup rvs) ∧ TDs H rvs (rows.map VR.data) := by
  obtain ⟨r, xs, rfl, gr, h⟩ := td_tup td
  obtain ⟨v1, xs, rfl, d1, h⟩ := tds_cons h
  obtain ⟨v2, xs, rfl, d2, h⟩ := tds_cons h
  obtain ⟨v3, xs, rfl, d3, h⟩ := tds_cons h
  cases h
  cases d1
  cases d2
  obtain ⟨rr, rvs, rfl, g3, e⟩ := td_tup d3
  exact ⟨r, rr, rvs, rfl, gr, g3, e⟩
theorem row_of {H : Hp} {rvs : List V} {rows : List VR} {i : Nat} {x : V} (td : TDs H rvs (rows.map VR.data)) (h : rvs[i]? = some x) : ∃ r t q, rows[i]? = some r ∧ x = .ref t ∧ H t = some (.tup [.int (r.c : Int), .bl r.st, .bl r.re, .ref q]) ∧ H q = some (.tup (intsN r.hs)) := by
  obtain ⟨d, hd, t⟩ := td.at h
  rw [List.getElem?_map] at hd
  obtain ⟨r, hr, rfl⟩ := Option.map_eq_some_iff.mp hd
  have t : TD H x (.tuple [.int (r.c : Int), .bool r.st, .bool r.re, .tuple (intD r.hs)]) := t
  obtain ⟨a, xs, rfl, ga, h⟩ := td_tup t
  obtain ⟨v1, xs, rfl, d1, h⟩ := tds_cons h
  obtain ⟨v2, xs, rfl, d2, h⟩ := tds_cons h
  obtain ⟨v3, xs, rfl, d3, h⟩ := tds_cons h
  obtain ⟨v4, xs, rfl, d4, h⟩ := tds_cons h
  cases h
  cases d1
  cases d2
  cases d3
  obtain ⟨q, ys, rfl, g4, e⟩ := td_tup d4
  rw [tds_ints e] at g4
  exact ⟨r, a, q, hr, rfl, ga, g4⟩
theorem TD.same {H H' : Hp} {d : PyData} {v : V} (h : TD H v d) (s : Same H H') : TD H' v d := TD.ch (Ch.same (S := []) s) _ _ h
theorem TDs.same {H H' : Hp} {d : List PyData} {v : List V} (h : TDs H v d) (s : Same H H') : TDs H' v d := TDs.ch (Ch.same (S := []) s) _ _ h
theorem unre_take {rows : List VR} {i : Nat} {r : VR} (h : rows[i]? = some r) : unre (rows.take (i + 1)) = unre (rows.take i) ++ if r.re then [] else [r.c] := by
  unfold unre
  rw [List.take_add_one, h, List.filter_append, List.map_append]
  congr 1
  cases e : r.re <;> simp [e]
theorem intsN_app (a b : List Nat) : intsN (a ++ b) = intsN a ++ intsN b := List.map_append ..
theorem unre_len (rows : List VR) : (unre rows).length ≤ rows.length := by
  unfold unre
  rw [List.length_map]
  exact List.length_filter_le ..
section
variable {P : Program} {w : World} {K : PySem.W.Frag} {mg : Str → Option Value} {base : Heap}
abbrev s__unreached : Stmt := top 1
abbrev n__unreached : List Str := ["view", "cell", "_", "reached"]
theorem sc__unreached : FnScope n__unreached ["view"] (defScope s__unreached) := ⟨rfl, rfl, rfl, by decide +kernel, rfl, by decide +kernel, by decide +kernel⟩
def spUn : Sp := fun vs H Q _ => ∃ (v : V) (m p : Int) (rows : List VR), vs = [v] ∧ TD H v (viewD m p rows) ∧ rows.length ≤ 8 ∧ ∀ H' t, Same H H' → H' t = some (.tup (intsN (unre rows))) → Q (.ref t) H'
theorem ok_un {f : Addr} {fd : FuncData} (F : Fun K "_unreached" "_unreached" s__unreached f fd) (z_tuple : mg "tuple" = none) : FnOk P w K mg base CX0 1 f fd ["view"] spUn := by
  refine F.ok sc__unreached (fun vs H Q E ⟨_, _, _, _, ev, _⟩ => by rw [ev]; rfl) (fun cdv A outer s H vs Q E hr ⟨v, m, p, rows, ev, td, l8, q⟩ => ?_)
  subst ev
  refine ⟨_, (pss_one (ps_ret (pe_callTy call_tuple_of (by rfl) z_tuple (by decide +kernel) (pa_cons (pe_lc (g := gTup K 4 (gCons (gName 1) (gCons (gName 2) (gCons (gName 3) (gCons (gName 2) gNil))))) (own := [("cell", 1), ("_", 2), ("reached", 3)]) (by rfl) sc__unreached.nd (pi_tup (pe_ix ix_tup (pv 0) pe_int (fun _ _ => rfl))) (blkOk_by (N := n__unreached) (sc := defScope s__unreached) (by decide +kernel)) (fun _ _ _ _ _ => (pg_tup rfl (pgs_cons (pg_name (i := 1) sc__unreached.nd rfl (.inl rfl)) (pgs_cons (pg_name (i := 2) sc__unreached.nd rfl (.inl rfl)) (pgs_cons (pg_name (i := 3) sc__unreached.nd rfl (.inl rfl)) (pgs_cons (pg_name (i := 2) sc__unreached.nd rfl (.inl rfl)) pgs_nil)))))) (fun _ _ _ _ _ => pts_one (pt_not (pt_val (pv 3)))) (fun _ _ _ _ _ => (pv 1))) pa_nil)))), ?_⟩
  obtain ⟨r, rr, rvs, rfl, gr, grr, tds⟩ := view_at td
  have ln : rvs.length = rows.length := by rw [tds.len, List.length_map]
  refine ⟨_, rfl, r, _, _, _, rfl, rfl, SqT.of gr, atI_nat (j := 2) rfl, rr, rfl, ⟨_, SqT.of grr⟩, fun N nN => ?_⟩
  refine lc_tup (xs := rvs) (fun i H' => Kp [N] H H' ∧ H' N = some (.lst (intsN (unre (rows.take i))))) ⟨(Kp.refl _ _).new nN, upd_same⟩ (fun i H' _ h => SqT.of (h.1 _ _ (by simp; intro z; rw [← z, grr] at nN; cases nN) grr)) ?_ ?_
  · rintro i x H' hx ⟨kp, gN⟩
    have s1 : Same H H' := (kp.fresh nN).toSame
    obtain ⟨rw', t, q4, hrow, rfl, gt, gq⟩ := row_of (tds.same s1) hx
    have hi := (List.getElem?_eq_some_iff.mp hrow).1
    refine ⟨t, _, rfl, SqT.of gt, rfl, _, _, rfl, _, _, rfl, _, _, rfl, _, _, rfl, rfl, rfl, _, rfl, ?_⟩
    have lu := unre_len (rows.take i)
    rw [List.length_take] at lu
    have e := unre_take hrow
    refine ⟨_, rfl, ?_⟩
    cases er : rw'.re with
    | false =>
      rw [er] at e
      refine iteT ⟨_, rfl, _, gN, lt_line (by unfold intsN; rw [List.length_map]; omega), kp.put (by simp), ?_⟩
      rw [upd_same, e, intsN_app]
      rfl
    | true =>
      rw [er] at e
      refine iteF ⟨kp, ?_⟩
      rw [e, gN]
      simp
  · rintro H' ⟨kp, gN⟩
    have s1 : Same H H' := (kp.fresh nN).toSame
    rw [ln, List.take_length] at gN
    exact ⟨N, _, rfl, .inl ⟨SqL.of gN, fun l nl => q _ l (Same.trans s1 (Same.up nl)) upd_same⟩⟩
end
end G

set_option Elab.async false
set_option linter.all false
set_option maxRecDepth 100000
set_option maxHeartbeats 4000000
/-! Counting, on paper: what is named. -/
namespace G
open PySem PySem.Spec PyProof.Rows L2
inductive Cnt (rows : List VR) : Nat → Prop
  | mk (r : VR) : r ∈ rows → r.st = false → (∀ h, h ∈ r.hs → Cnt rows h) → Cnt rows r.c
def mis (N : List Nat) (r : VR) : Nat := (r.hs.filter fun h => decide (h ∉ N)).length
def ready (N : List Nat) (r : VR) : Bool := !r.st && decide (mis N r = 0)
theorem mis_zero {N : List Nat} {r : VR} : mis N r = 0 ↔ ∀ h ∈ r.hs, h ∈ N := by
  unfold mis
  rw [List.length_eq_zero_iff, List.filter_eq_nil_iff]
  constructor
  · intro h x hx
    have z := h x hx
    simpa using z
  · intro h x hx
    have z := h x hx
    simpa using z
theorem ready_iff {N : List Nat} {r : VR} : ready N r = true ↔ r.st = false ∧ ∀ h ∈ r.hs, h ∈ N := by
  unfold ready
  rw [Bool.and_eq_true_iff, decide_eq_true_iff, mis_zero, Bool.not_eq_true']
theorem filt_step {N : List Nat} {x : Nat} (hx : x ∉ N) : ∀ (l : List Nat), l.Nodup → (l.filter fun h => decide (h ∉ N ++ [x])).length + (if x ∈ l then 1 else 0) = (l.filter fun h => decide (h ∉ N)).length
  | [], _ => rfl
  | h :: r, nd => by
    obtain ⟨h1, h2⟩ := List.nodup_cons.mp nd
    have ih := filt_step hx r h2
    by_cases e : h = x
    · subst e
      rw [if_neg h1] at ih
      rw [if_pos (List.mem_cons_self ..), List.filter_cons_of_neg (by simp), List.filter_cons_of_pos (by simpa using hx), List.length_cons]
      omega
    · have hm : (x ∈ h :: r) = (x ∈ r) := by
        rw [List.mem_cons]
        exact propext ⟨fun z => z.resolve_left fun y => e y.symm, .inr⟩
      simp only [hm]
      by_cases c : h ∈ N
      · rw [List.filter_cons_of_neg (by simp [c]), List.filter_cons_of_neg (by simp [c])]
        exact ih
      · rw [List.filter_cons_of_pos (by simp [c, e]), List.filter_cons_of_pos (by simp [c]), List.length_cons, List.length_cons]
        omega
theorem mis_step {N : List Nat} {x : Nat} {r : VR} (hx : x ∉ N) (nd : r.hs.Nodup) : mis (N ++ [x]) r + (if x ∈ r.hs then 1 else 0) = mis N r := filt_step hx r.hs nd
/-- the rows that x holds -/
def heldR (rows : List VR) (x : Nat) : List VR := rows.filter fun r => decide (x ∈ r.hs)
theorem row_inj {rows : List VR} (nd : (rows.map VR.c).Nodup) {r r' : VR} (h : r ∈ rows) (h' : r' ∈ rows) (e : r.c = r'.c) : r = r' := nd_inj nd h h' e
structure Wl (rows : List VR) (N L : List Nat) : Prop where
  nd : (N ++ L).Nodup
  mem : ∀ r ∈ rows, (r.c ∈ N ++ L ↔ ready N r = true)
  sub : ∀ x ∈ N ++ L, ∃ r ∈ rows, r.c = x
  snd : ∀ x ∈ N ++ L, Cnt rows x
theorem ready_mono {N M : List Nat} {r : VR} (s : ∀ x ∈ N, x ∈ M) (h : ready N r = true) : ready M r = true := by
  obtain ⟨a, b⟩ := ready_iff.mp h
  exact ready_iff.mpr ⟨a, fun h hh => s h (b h hh)⟩
/-- the list of what is to be popped, at first -/
theorem Wl.start {rows : List VR} (g : GoodV rows) : Wl rows [] ((rows.filter (ready [])).map VR.c) where
  nd := (List.Sublist.map _ (List.filter_sublist)).nodup g.nd
  mem r hr := by
    rw [List.nil_append]
    constructor
    · intro h
      obtain ⟨r', hr', e⟩ := List.mem_map.mp h
      obtain ⟨h1, h2⟩ := List.mem_filter.mp hr'
      rw [← row_inj g.nd h1 hr e]
      exact h2
    · exact fun h => List.mem_map.mpr ⟨r, List.mem_filter.mpr ⟨hr, h⟩, rfl⟩
  sub x hx := by
    obtain ⟨r, hr, e⟩ := List.mem_map.mp hx
    exact ⟨r, (List.mem_filter.mp hr).1, e⟩
  snd x hx := by
    obtain ⟨r, hr, rfl⟩ := List.mem_map.mp hx
    obtain ⟨h1, h2⟩ := List.mem_filter.mp hr
    obtain ⟨a, b⟩ := ready_iff.mp h2
    exact .mk r h1 a fun h hh => absurd (b h hh) List.not_mem_nil
theorem Wl.step {rows : List VR} (g : GoodV rows) {N L : List Nat} {x : Nat} (w : Wl rows N (L ++ [x])) : Wl rows (N ++ [x]) (L ++ ((heldR rows x).filter (ready (N ++ [x]))).map VR.c) := by
  have xN : x ∉ N := fun h => by
    have z := (List.nodup_append.mp w.nd).2.2 x h x (by simp)
    exact z rfl
  have sub1 : ∀ y ∈ N ++ [x], y ∈ N ++ (L ++ [x]) := fun y hy => by
    rcases List.mem_append.mp hy with h | h
    · exact List.mem_append_left _ h
    · exact List.mem_append_right _ (List.mem_append_right _ h)
  have old : ∀ y, y ∈ (N ++ [x]) ++ L ↔ y ∈ N ++ (L ++ [x]) := fun y => by
    simp only [List.mem_append, List.mem_singleton]
    constructor
    · rintro ((h | h) | h)
      · exact .inl h
      · exact .inr (.inr h)
      · exact .inr (.inl h)
    · rintro (h | h | h)
      · exact .inl (.inl h)
      · exact .inr h
      · exact .inl (.inr h)
  have push : ∀ y, y ∈ ((heldR rows x).filter (ready (N ++ [x]))).map VR.c → ∃ r ∈ rows, r.c = y ∧ x ∈ r.hs ∧ ready (N ++ [x]) r = true := fun y hy => by
    obtain ⟨r, hr, rfl⟩ := List.mem_map.mp hy
    obtain ⟨h1, h2⟩ := List.mem_filter.mp hr
    obtain ⟨h3, h4⟩ := List.mem_filter.mp h1
    exact ⟨r, h3, rfl, of_decide_eq_true h4, h2⟩
  have fresh : ∀ y, y ∈ ((heldR rows x).filter (ready (N ++ [x]))).map VR.c → y ∉ N ++ (L ++ [x]) := fun y hy hm => by
    obtain ⟨r, hr, rfl, hx, _⟩ := push y hy
    obtain ⟨_, b⟩ := ready_iff.mp ((w.mem r hr).mp hm)
    exact xN (b x hx)
  have eas : (N ++ [x]) ++ (L ++ ((heldR rows x).filter (ready (N ++ [x]))).map VR.c) = ((N ++ [x]) ++ L) ++ ((heldR rows x).filter (ready (N ++ [x]))).map VR.c := by
    rw [List.append_assoc, List.append_assoc, List.append_assoc]
  refine ⟨?_, fun r hr => ?_, fun y hy => ?_, fun y hy => ?_⟩
  · rw [eas]
    refine List.nodup_append.mpr ⟨?_, ?_, fun a ha b hb e => ?_⟩
    · refine (List.Perm.nodup_iff ?_).mpr w.nd
      rw [List.append_assoc]
      exact List.Perm.append_left N List.perm_append_comm
    · refine (List.Sublist.map _ (List.Sublist.trans List.filter_sublist ?_)).nodup g.nd
      exact List.filter_sublist
    · rw [← e] at hb
      exact fresh a hb ((old a).mp ha)
  · rw [eas, List.mem_append, old]
    constructor
    · rintro (h | h)
      · exact ready_mono (fun y hy => List.mem_append_left _ hy) ((w.mem r hr).mp h)
      · obtain ⟨r', hr', e, _, h2⟩ := push _ h
        rw [← row_inj g.nd hr' hr e]
        exact h2
    · intro h
      by_cases c : ready N r = true
      · exact .inl ((w.mem r hr).mpr c)
      · refine .inr (List.mem_map.mpr ⟨r, List.mem_filter.mpr ⟨List.mem_filter.mpr ⟨hr, decide_eq_true ?_⟩, h⟩, rfl⟩)
        obtain ⟨a, b⟩ := ready_iff.mp h
        by_cases hx : x ∈ r.hs
        · exact hx
        · refine absurd (ready_iff.mpr ⟨a, fun y hy => ?_⟩) c
          rcases List.mem_append.mp (b y hy) with z | z
          · exact z
          · rw [List.mem_singleton.mp z] at hy
            exact absurd hy hx
  · rw [eas] at hy
    rcases List.mem_append.mp hy with h | h
    · exact w.sub y ((old y).mp h)
    · obtain ⟨r, hr, e, _⟩ := push y h
      exact ⟨r, hr, e⟩
  · rw [eas] at hy
    rcases List.mem_append.mp hy with h | h
    · exact w.snd y ((old y).mp h)
    · obtain ⟨r, hr, rfl, _, h2⟩ := push y h
      obtain ⟨a, b⟩ := ready_iff.mp h2
      exact .mk r hr a fun z hz => w.snd z (sub1 z (b z hz))
/-- all cells that a closed list of named ones has -/
theorem cnt_in {rows : List VR} {N : List Nat} (cl : ∀ r ∈ rows, ready N r = true → r.c ∈ N) {c : Nat} (h : Cnt rows c) : c ∈ N := by
  induction h with
  | mk r hr hs _ ih => exact cl r hr (ready_iff.mpr ⟨hs, ih⟩)
theorem Wl.done {rows : List VR} {N : List Nat} (w : Wl rows N []) (c : Nat) : c ∈ N ↔ Cnt rows c := by
  have e : N ++ [] = N := List.append_nil N
  refine ⟨fun h => w.snd c (by rw [e]; exact h), fun h => cnt_in (fun r hr hh => ?_) h⟩
  have z := (w.mem r hr).mpr hh
  rwa [e] at z
theorem nd_len : ∀ (n : Nat) {l : List Nat} {m : List Nat}, m.length = n → l.Nodup → (∀ x ∈ l, x ∈ m) → l.length ≤ n := by
  intro n l m em nd h
  rw [← em]
  clear em n
  induction l generalizing m with
  | nil => exact Nat.zero_le _
  | cons x r ih =>
    obtain ⟨h1, h2⟩ := List.nodup_cons.mp nd
    have hx := h x (List.mem_cons_self ..)
    have z := ih (m := m.erase x) h2 fun y hy => (List.mem_erase_of_ne (fun e => h1 (by rw [← e]; exact hy))).mpr (h y (List.mem_cons_of_mem _ hy))
    have l := List.length_erase_of_mem hx
    have lp : 0 < m.length := List.length_pos_of_mem hx
    rw [List.length_cons]
    omega
theorem Wl.len {rows : List VR} (g : GoodV rows) {N L : List Nat} (w : Wl rows N L) : N.length + L.length ≤ rows.length := by
  have z := nd_len rows.length (l := N ++ L) (m := rows.map VR.c) (List.length_map _) w.nd fun x hx => by
    obtain ⟨r, hr, e⟩ := w.sub x hx
    exact List.mem_map.mpr ⟨r, hr, e⟩
  rwa [List.length_append] at z
end G

set_option Elab.async false
set_option linter.all false
set_option maxRecDepth 100000
set_option maxHeartbeats 4000000
/-! Counting.names: dicts of rows; the state of the walk. -/
namespace G
open PySem PySem.Spec PyProof.Rows L2
def kvOf (f : VR → V) (rows : List VR) : List (Key × V) := rows.map fun r => (kN r.c, f r)
theorem kvOf_none {f : VR → V} {c : Nat} : ∀ {rows : List VR}, c ∉ rows.map VR.c → valV (kvOf f rows) (kN c) = none
  | [], _ => rfl
  | r :: rs, h => by
    have h1 : ¬ kN r.c = kN c := fun z => h (by rw [List.map_cons, kN_inj _ _ z]; exact List.mem_cons_self ..)
    show valV ((kN r.c, f r) :: kvOf f rs) (kN c) = none
    rw [valV_neg h1]
    exact kvOf_none fun z => h (List.mem_cons_of_mem _ z)
theorem kvOf_some {f : VR → V} : ∀ {rows : List VR}, (rows.map VR.c).Nodup → ∀ {r : VR}, r ∈ rows → valV (kvOf f rows) (kN r.c) = some (f r)
  | [], _, _, h => nomatch h
  | r :: rs, nd, r', h => by
    rw [List.map_cons, List.nodup_cons] at nd
    show valV ((kN r.c, f r) :: kvOf f rs) (kN r'.c) = _
    rcases List.mem_cons.mp h with rfl | h
    · rw [valV_pos rfl]
    · have h1 : ¬ kN r.c = kN r'.c := fun z => nd.1 (List.mem_map.mpr ⟨r', h, (kN_inj _ _ z).symm⟩)
      rw [valV_neg h1]
      exact kvOf_some nd.2 h
theorem nd_take {rows : List VR} (nd : (rows.map VR.c).Nodup) {i : Nat} {r : VR} (h : rows[i]? = some r) : r.c ∉ (rows.take i).map VR.c := fun hm => by
  have e : rows.take (i + 1) = rows.take i ++ [r] := by rw [List.take_add_one, h]; rfl
  have z : ((rows.take (i + 1)).map VR.c).Nodup := (List.Sublist.map _ (List.take_sublist ..)).nodup nd
  rw [e, List.map_append] at z
  exact (List.nodup_append.mp z).2.2 _ hm r.c (by simp) rfl
theorem kvOf_step {f : VR → V} {rows : List VR} (nd : (rows.map VR.c).Nodup) {i : Nat} {r : VR} (h : rows[i]? = some r) : putK (kvOf f (rows.take i)) (kN r.c) (f r) = kvOf f (rows.take (i + 1)) := by
  rw [putK_new _ (kvOf_none (nd_take nd h)), List.take_add_one, h]
  unfold kvOf
  rw [List.map_append]
  rfl
/-- what the walk holds -/
structure CW (H H' : Hp) (rows : List VR) (DS DM DH LL LN : Addr) (hs : List HolE) (kvs : List (Key × V)) (L N : List Nat) : Prop where
  sm : Same H H'
  s : H' DS = some (.dK (kvOf (fun r => .bl r.st) rows))
  m : H' DM = some (.dK kvs)
  h : HolAt H H' DH hs
  l : H' LL = some (.lst (intsN L))
  n : H' LN = some (.lst (intsN N))
  fs : H DS = none
  fm : H DM = none
  fh : H DH = none
  fl : H LL = none
  fn : H LN = none
  sm_ne : DS ≠ DM
  mh_ne : DM ≠ DH
  ln_ne : LL ≠ LN
  hl : ∀ x ∈ hs, x.2.1 ≠ LL ∧ x.2.1 ≠ LN
theorem HolAt.put {H0 H : Hp} {D p : Addr} {o : HO} {hs : List HolE} (h : HolAt H0 H D hs) (h1 : D ≠ p) (h2 : ∀ x ∈ hs, x.2.1 ≠ p) : HolAt H0 (upd H p o) D hs :=
  ⟨by rw [upd_ne h1]; exact h.d, fun x hx => ⟨by rw [upd_ne (h2 x hx)]; exact (h.l x hx).1, (h.l x hx).2⟩, h.nd, h.nk⟩
section
variable {H H' : Hp} {rows : List VR} {DS DM DH LL LN : Addr} {hs : List HolE} {kvs : List (Key × V)} {L N : List Nat}
theorem CW.same {H2 : Hp} (w : CW H H' rows DS DM DH LL LN hs kvs L N) (s : Same H' H2) : CW H H2 rows DS DM DH LL LN hs kvs L N :=
  { w with sm := Same.trans w.sm s, s := s _ _ w.s, m := s _ _ w.m, h := w.h.same s, l := s _ _ w.l, n := s _ _ w.n }
theorem CW.setM (w : CW H H' rows DS DM DH LL LN hs kvs L N) (kvs' : List (Key × V)) : CW H (upd H' DM (.dK kvs')) rows DS DM DH LL LN hs kvs' L N :=
  { w with
    sm := G.Same.putN w.sm w.fm
    s := by rw [upd_ne w.sm_ne]; exact w.s
    m := upd_same
    h := w.h.put (Ne.symm w.mh_ne) fun x hx => ne_of (w.h.l x hx).1 w.m (by intro z; cases z)
    l := by rw [upd_ne (ne_of w.l w.m (by intro z; cases z))]; exact w.l
    n := by rw [upd_ne (ne_of w.n w.m (by intro z; cases z))]; exact w.n }
theorem CW.setL (w : CW H H' rows DS DM DH LL LN hs kvs L N) (L' : List Nat) : CW H (upd H' LL (.lst (intsN L'))) rows DS DM DH LL LN hs kvs L' N :=
  { w with
    sm := G.Same.putN w.sm w.fl
    s := by rw [upd_ne (ne_of w.s w.l (by intro z; cases z))]; exact w.s
    m := by rw [upd_ne (ne_of w.m w.l (by intro z; cases z))]; exact w.m
    h := w.h.put (ne_of w.h.d w.l (by intro z; cases z)) fun x hx => (w.hl x hx).1
    l := upd_same
    n := by rw [upd_ne (Ne.symm w.ln_ne)]; exact w.n }
theorem CW.setN (w : CW H H' rows DS DM DH LL LN hs kvs L N) (N' : List Nat) : CW H (upd H' LN (.lst (intsN N'))) rows DS DM DH LL LN hs kvs L N' :=
  { w with
    sm := G.Same.putN w.sm w.fn
    s := by rw [upd_ne (ne_of w.s w.n (by intro z; cases z))]; exact w.s
    m := by rw [upd_ne (ne_of w.m w.n (by intro z; cases z))]; exact w.m
    h := w.h.put (ne_of w.h.d w.n (by intro z; cases z)) fun x hx => (w.hl x hx).2
    l := by rw [upd_ne w.ln_ne]; exact w.l
    n := upd_same }
end
/-- what is missing while the first i of those that x holds are done -/
def misI (N : List Nat) (x : Nat) (done : List Nat) (r : VR) : Nat := if r.c ∈ done then mis (N ++ [x]) r else mis N r
theorem heldR_nd {rows : List VR} (nd : (rows.map VR.c).Nodup) (x : Nat) : ((heldR rows x).map VR.c).Nodup := (List.Sublist.map _ List.filter_sublist).nodup nd
theorem misI_start {N : List Nat} {x : Nat} {r : VR} : misI N x [] r = mis N r := if_neg List.not_mem_nil
theorem misI_end {rows : List VR} (g : GoodV rows) {N : List Nat} {x : Nat} (hx : x ∉ N) {r : VR} (hr : r ∈ rows) : misI N x ((heldR rows x).map VR.c) r = mis (N ++ [x]) r := by
  unfold misI
  by_cases c : r.c ∈ (heldR rows x).map VR.c
  · rw [if_pos c]
  · rw [if_neg c]
    have z := mis_step hx (g.hs r hr).1
    rw [if_neg (fun h => c (List.mem_map.mpr ⟨r, List.mem_filter.mpr ⟨hr, decide_eq_true h⟩, rfl⟩))] at z
    omega
end G

set_option Elab.async false
set_option linter.all false
set_option maxRecDepth 100000
set_option maxHeartbeats 8000000
/-! Counting.names. -/
namespace G
open PySem PySem.Spec PyProof.Rows L2
section
variable {P : Program} {w : World} {K : PySem.W.Frag} {mg : Str → Option Value} {base : Heap}
theorem mis_nil (r : VR) : mis [] r = r.hs.length := by
  unfold mis
  rw [List.filter_eq_self.mpr (fun x _ => by simp)]
theorem heldR_take {rows : List VR} {j : Nat} {r : VR} (h : rows[j]? = some r) (e : Nat) : (heldR (rows.take (j + 1)) e).map VR.c = (heldR (rows.take j) e).map VR.c ++ if e ∈ r.hs then [r.c] else [] := by
  unfold heldR
  rw [List.take_add_one, h, List.filter_append, List.map_append]
  congr 1
  by_cases c : e ∈ r.hs <;> simp [c]
theorem heldR_len (rows : List VR) (e : Nat) : ((heldR rows e).map VR.c).length ≤ rows.length := by
  rw [List.length_map]
  exact List.length_filter_le ..
theorem ints_at {l : List Nat} {i : Nat} {x : V} (h : (intsN l)[i]? = some x) : ∃ e, l[i]? = some e ∧ x = .int (e : Int) := by
  unfold intsN at h
  rw [List.getElem?_map] at h
  obtain ⟨e, he, rfl⟩ := Option.map_eq_some_iff.mp h
  exact ⟨e, he, rfl⟩
theorem take_mem {l : List Nat} (nd : l.Nodup) {i e : Nat} (h : l[i]? = some e) : e ∉ l.take i ∧ ∀ f, f ∈ l.take (i + 1) ↔ f ∈ l.take i ∨ f = e := by
  have t : l.take (i + 1) = l.take i ++ [e] := by rw [List.take_add_one, h]; rfl
  refine ⟨fun hm => ?_, fun f => by rw [t, List.mem_append, List.mem_singleton]⟩
  have z : (l.take (i + 1)).Nodup := (List.take_sublist ..).nodup nd
  rw [t] at z
  exact (List.nodup_append.mp z).2.2 _ hm e (by simp) rfl
theorem filt_take {rows : List VR} {p : VR → Bool} {i : Nat} {r : VR} (h : rows[i]? = some r) : ((rows.take (i + 1)).filter p).map VR.c = ((rows.take i).filter p).map VR.c ++ if p r then [r.c] else [] := by
  rw [List.take_add_one, h, List.filter_append, List.map_append]
  congr 1
  cases e : p r <;> simp [e]
theorem ready_split (N : List Nat) (r : VR) : ready N r = (decide (V.int (mis N r : Nat) = V.int 0) && !r.st) := by
  unfold ready
  rw [Bool.and_comm]
  congr 1
  by_cases h : mis N r = 0
  · rw [decide_eq_true h, decide_eq_true (by rw [h]; rfl)]
  · rw [decide_eq_false h, decide_eq_false (fun z => h (by have := V.int.inj z; omega))]
theorem sorted_nat {N : List Nat} {ns' : List Int} (p : ns'.Perm (N.map fun (c : Nat) => (c : Int))) (pw : ns'.Pairwise (· ≤ ·)) : ∃ zs : List Nat, ns'.map V.int = intsN zs ∧ zs.Perm N ∧ zs.Pairwise (· ≤ ·) := by
  have pos : ∀ x ∈ ns', ((x.toNat : Nat) : Int) = x := fun x hx => by
    obtain ⟨c, _, rfl⟩ := List.mem_map.mp (p.mem_iff.mp hx)
    rfl
  refine ⟨ns'.map Int.toNat, ?_, ?_, ?_⟩
  · unfold intsN
    rw [List.map_map]
    refine List.map_congr_left fun x hx => ?_
    show V.int x = V.int ((x.toNat : Nat) : Int)
    rw [pos x hx]
  · have z := p.map Int.toNat
    rw [List.map_map] at z
    have e : N.map (Int.toNat ∘ fun (c : Nat) => (c : Int)) = N := by
      conv => rhs; rw [← List.map_id N]
      exact List.map_congr_left fun c _ => rfl
    rwa [e] at z
  · refine List.pairwise_map.mpr (pw.imp_of_mem fun {a b} ha hb h => ?_)
    have := pos a ha
    have := pos b hb
    omega
theorem intsN_cast (N : List Nat) : (N.map fun (c : Nat) => (c : Int)).map V.int = intsN N := by
  unfold intsN
  rw [List.map_map]
  rfl
theorem putK_same_len {kvs : List (Key × V)} {k : Key} {v z : V} (h : valV kvs k = some v) : (putK kvs k z).length = kvs.length := by
  have ha : (kvs.any fun kv => decide (kv.1 = k)) = true := by
    unfold valV at h
    obtain ⟨p, hp, _⟩ := Option.map_eq_some_iff.mp h
    exact List.any_eq_true.mpr ⟨p, List.mem_of_find?_eq_some hp, by simpa using List.find?_some hp⟩
  unfold putK
  rw [if_pos ha, List.length_map]
abbrev rLenK (K : PySem.W.Frag) : List V → Hp → VK → Prop := fun xs H Q => ∃ p ys, xs = [.ref p] ∧ (SqL K H p ys ∨ SqT K H p ys) ∧ Q (.int (ys.length : Int)) H
abbrev s_cnames : Stmt := inClass (top 8) 0
abbrev n_cnames : List Str := ["self", "view", "standing", "missing", "held", "cell", "_", "holders", "holder", "left", "named", "stands"]
theorem sc_cnames : FnScope n_cnames ["self", "view"] (defScope s_cnames) := ⟨rfl, rfl, rfl, by decide +kernel, rfl, by decide +kernel, by decide +kernel⟩
def spCn : Sp := fun vs H Q _ => ∃ (x v : V) (m p : Int) (rows : List VR), vs = [x, v] ∧ TD H v (viewD m p rows) ∧ GoodV rows ∧ ∀ H' t zs, Same H H' → H' t = some (.tup (intsN zs)) → zs.Pairwise (· ≤ ·) → zs.Nodup → (∀ c, c ∈ zs ↔ Cnt rows c) → Q (.ref t) H'
theorem ok_cn {f : Addr} {fd : FuncData} (F : Fun K "names" "Counting.names" s_cnames f fd) (z_tuple : mg "tuple" = none) (z_sorted : mg "sorted" = none) (z_len : mg "len" = none) : FnOk P w K mg base CX0 1 f fd ["self", "view"] spCn := by
  refine F.ok sc_cnames (fun vs H Q E ⟨_, _, _, _, _, ev, _⟩ => by rw [ev]; rfl) (fun cdv A outer s H vs Q E hr ⟨x, v, m, p, rows, ev, td, gv, q⟩ => ?_)
  subst ev
  have hu : (A.deeper (envOfC "Counting.names" (defScope s_cnames) s.heap.objs.size f cdv)).units + 1 < cLine := by have := hr.un; omega
  refine ⟨_, (pss_cons (ps_set (i := 2) sc_cnames.nd rfl (.inr rfl) (pe_dc (g := gTup K 4 (gCons (gName 5) (gCons (gName 11) (gCons (gName 6) (gCons (gName 6) gNil))))) (tt := tYes) (tk := tVar 5) (tv := tVar 11) (own := [("cell", 5), ("stands", 11), ("_", 6)]) rfl sc_cnames.nd (pi_tup (pe_ix ix_tup (pv 1) pe_int (fun _ _ => rfl))) (blkOk_by (N := n_cnames) (sc := defScope s_cnames) (by decide +kernel)) (fun _ _ _ _ _ => (pg_tup rfl (pgs_cons (pg_name (i := 5) sc_cnames.nd rfl (.inl rfl)) (pgs_cons (pg_name (i := 11) sc_cnames.nd rfl (.inl rfl)) (pgs_cons (pg_name (i := 6) sc_cnames.nd rfl (.inl rfl)) (pgs_cons (pg_name (i := 6) sc_cnames.nd rfl (.inl rfl)) pgs_nil)))))) (fun _ _ _ _ _ => pts_nil) (fun _ _ _ _ _ => pv 5) (fun _ _ _ _ _ => pv 11)))
      (pss_cons (ps_set (i := 3) sc_cnames.nd rfl (.inr rfl) (pe_dc (g := gTup K 4 (gCons (gName 5) (gCons (gName 6) (gCons (gName 6) (gCons (gName 7) gNil))))) (tt := tYes) (tk := tVar 5) (tv := tCB (rLenK K) (tCons (tVar 7) tNil)) (own := [("cell", 5), ("_", 6), ("holders", 7)]) rfl sc_cnames.nd (pi_tup (pe_ix ix_tup (pv 1) pe_int (fun _ _ => rfl))) (blkOk_by (N := n_cnames) (sc := defScope s_cnames) (by decide +kernel)) (fun _ _ _ _ _ => (pg_tup rfl (pgs_cons (pg_name (i := 5) sc_cnames.nd rfl (.inl rfl)) (pgs_cons (pg_name (i := 6) sc_cnames.nd rfl (.inl rfl)) (pgs_cons (pg_name (i := 6) sc_cnames.nd rfl (.inl rfl)) (pgs_cons (pg_name (i := 7) sc_cnames.nd rfl (.inl rfl)) pgs_nil)))))) (fun _ _ _ _ _ => pts_nil) (fun _ _ _ _ _ => pv 5) (fun _ _ _ _ _ => (pe_callB (show CallR _ (.builtin "len") (rLenK K) from call_len_seq) (by rfl) z_len (by decide +kernel) (pa_cons (pv 7) pa_nil)))))
      (pss_cons (ps_set (i := 4) sc_cnames.nd rfl (.inl rfl) pe_dnewK)
      (pss_cons (ps_for PassesOwn.never rfl (pi_tup (pe_ix ix_tup (pv 1) pe_int (fun _ _ => rfl))) (pg_tup rfl (pgs_cons (pg_name (i := 5) sc_cnames.nd rfl (.inl rfl)) (pgs_cons (pg_name (i := 6) sc_cnames.nd rfl (.inl rfl)) (pgs_cons (pg_name (i := 6) sc_cnames.nd rfl (.inl rfl)) (pgs_cons (pg_name (i := 7) sc_cnames.nd rfl (.inl rfl)) pgs_nil)))))
      (pss_one (ps_for PassesOwn.never rfl (pi_tup (pv 7)) (pg_name (i := 8) sc_cnames.nd rfl (.inl rfl))
      (pss_one (ps_expr (pe_bm PySem.F.plainAttrs_list PySem.F.slot_list_append PySem.F.type_list_append mt_append (pe_dsetd (pv 4) (pv 8) (pe_lst pa_nil) ⟨rfl, rfl, rfl, rfl⟩) (pa_cons (pv 5) pa_nil)))))))
      (pss_cons (ps_lock (ps_setLc (i := 9) (own := [("cell", 5)]) (by rfl) sc_cnames.nd rfl rfl (sw_true rfl rfl rfl (by decide +kernel)) (pi_keys (pv 3)) (blkOk_by (N := n_cnames) (sc := defScope s_cnames) (by decide +kernel)) (fun _ _ _ _ _ => (pg_name (i := 5) sc_cnames.nd rfl (.inl rfl))) (fun _ _ _ _ _ => pts_one (PW.pt (pw_and (pt_cmpR op_eq (pe_dget hu (pv 3) (pv 5) (fun _ _ => rfl)) pe_int (nomark _)) (pw_and1 (pt_not (pt_val (pe_dget hu (pv 2) (pv 5) (fun _ _ => rfl)))))))) (fun _ _ _ _ _ => (pv 5))))
      (pss_cons (ps_set (i := 10) sc_cnames.nd rfl (.inl rfl) (pe_lst pa_nil))
      (pss_cons (ps_while PassesOwn.never (pt_truth (pv 9) (by intro _; rfl)) (pss_cons (ps_set (i := 8) sc_cnames.nd rfl (.inl rfl) (pe_bm0 PySem.F.plainAttrs_list PySem.F.slot_list_pop PySem.F.type_list_pop mt_pop (pv 9)))
      (pss_cons (ps_expr (pe_bm PySem.F.plainAttrs_list PySem.F.slot_list_append PySem.F.type_list_append mt_append (pv 10) (pa_cons (pv 8) pa_nil)))
      (pss_one (ps_for PassesOwn.never rfl (pi_list (pe_dget2 hu (pv 4) (pv 8) (pe_lst pa_nil) ⟨rfl, rfl, rfl, rfl⟩)) (pg_name (i := 5) sc_cnames.nd rfl (.inl rfl))
      (pss_cons (ps_dput hu (pv 3) (pv 5) (pe_op op_sub (pe_dget hu (pv 3) (pv 5) (fun _ _ => rfl)) pe_int) rfl)
      (pss_one (ps_if (PW.pt (pw_and (pt_cmpR op_eq (pe_dget hu (pv 3) (pv 5) (fun _ _ => rfl)) pe_int (nomark _)) (pw_and1 (pt_not (pt_val (pe_dget hu (pv 2) (pv 5) (fun _ _ => rfl)))))))
      (pss_one (ps_expr (pe_bm PySem.F.plainAttrs_list PySem.F.slot_list_append PySem.F.type_list_append mt_append (pv 9) (pa_cons (pv 5) pa_nil))))
      pss_nil))))))))
      (pss_one (ps_ret (pe_callTy call_tuple_of (by rfl) z_tuple (by decide +kernel) (pa_cons (pe_callB cr_sorted (by rfl) z_sorted (by decide +kernel) (pa_cons (pv 10) pa_nil)) pa_nil))))))))))), ?_⟩
  obtain ⟨r, rr, rvs, rfl, gr, grr, tds⟩ := view_at td
  have ln : rvs.length = rows.length := by rw [tds.len, List.length_map]
  have l8 := gv.len
  -- standing
  refine ⟨_, rfl, r, _, _, _, rfl, rfl, SqT.of gr, atI_nat (j := 2) rfl, rr, rfl, ⟨_, SqT.of grr⟩, fun DS nS => ?_⟩
  refine dc_tup (xs := rvs) (fun i H' => Kp [DS] H H' ∧ H' DS = some (.dK (kvOf (fun r => .bl r.st) (rows.take i)))) ⟨(Kp.refl _ _).new nS, upd_same⟩ (fun i H' _ h => SqT.of (h.1 _ _ (by simp; intro z; rw [← z, grr] at nS; cases nS) grr)) ?_ ?_
  · rintro i x H' hx ⟨kp, gD⟩
    have s1 : Same H H' := (kp.fresh nS).toSame
    obtain ⟨row, t, q4, hrow, rfl, gt, gq⟩ := row_of (tds.same s1) hx
    refine ⟨t, _, rfl, SqT.of gt, rfl, _, _, rfl, _, _, rfl, _, _, rfl, _, _, rfl, rfl, ?_⟩
    refine ⟨rfl, _, rfl, _, rfl, _, kN row.c, rfl, gD, lt_line (by unfold kvOf; rw [List.length_map, List.length_take]; omega), kp.put (by simp), ?_⟩
    rw [upd_same]
    exact congrArg some (congrArg HO.dK (kvOf_step (f := fun r => .bl r.st) gv.nd hrow))
  rintro H1 ⟨kp1, gS⟩
  have s1 : Same H H1 := (kp1.fresh nS).toSame
  rw [ln, List.take_length] at gS
  -- missing
  refine ⟨_, rfl, r, _, _, _, rfl, rfl, SqT.of (s1 _ _ gr), atI_nat (j := 2) rfl, rr, rfl, ⟨_, SqT.of (s1 _ _ grr)⟩, fun DM nM => ?_⟩
  refine dc_tup (xs := rvs) (fun i H' => Kp [DM] H1 H' ∧ H' DM = some (.dK (kvOf (fun r => .int (mis [] r : Nat)) (rows.take i)))) ⟨(Kp.refl _ _).new nM, upd_same⟩ (fun i H' _ h => SqT.of (h.1 _ _ (by simp; intro z; rw [← z, s1 _ _ grr] at nM; cases nM) (s1 _ _ grr))) ?_ ?_
  · rintro i x H' hx ⟨kp, gD⟩
    have s2 : Same H H' := Same.trans s1 (kp.fresh nM).toSame
    obtain ⟨row, t, q4, hrow, rfl, gt, gq⟩ := row_of (tds.same s2) hx
    refine ⟨t, _, rfl, SqT.of gt, rfl, _, _, rfl, _, _, rfl, _, _, rfl, _, _, rfl, rfl, ?_⟩
    refine ⟨rfl, _, rfl, _, rfl, q4, _, rfl, .inr (SqT.of gq), _, kN row.c, rfl, gD, lt_line (by unfold kvOf; rw [List.length_map, List.length_take]; omega), kp.put (by simp), ?_⟩
    have el : ((intsN row.hs).length : Int) = (mis [] row : Nat) := by rw [mis_nil]; unfold intsN; rw [List.length_map]
    rw [upd_same, el]
    exact congrArg some (congrArg HO.dK (kvOf_step (f := fun r => .int (mis [] r : Nat)) gv.nd hrow))
  rintro H2 ⟨kp2, gM⟩
  have s12 : Same H1 H2 := (kp2.fresh nM).toSame
  have s2 : Same H H2 := Same.trans s1 s12
  rw [ln, List.take_length] at gM
  have sM : DS ≠ DM := ne_of_none gS nM
  have gS := s12 _ _ gS
  -- held
  refine fun DH nH => ?_
  have s3 := Same.up (o := HO.dK []) nH
  have gH3 : upd H2 DH (HO.dK []) DH = some (.dK []) := upd_same
  generalize upd H2 DH (HO.dK []) = H3 at s3 gH3 ⊢
  have mH : DM ≠ DH := ne_of_none gM nH
  have key8 : ∀ {H' : Hp} {hs : List HolE}, HolAt H2 H' DH hs → (∀ y ∈ hs, y.1 ∈ rows.map VR.c) → hs.length ≤ 8 := fun hA hk => by
    have z := nd_len rows.length (l := (List.map (fun x : HolE => x.1) _)) (m := rows.map VR.c) (List.length_map _) hA.nk fun e he => by
      obtain ⟨y, hy, rfl⟩ := List.mem_map.mp he
      exact hk y hy
    rw [List.length_map] at z
    omega
  refine ⟨_, rfl, r, _, _, _, rfl, rfl, SqT.of (s3 _ _ (s2 _ _ gr)), atI_nat (j := 2) rfl, rr, rfl, ⟨_, SqT.of (s3 _ _ (s2 _ _ grr))⟩, for_tup (xs := rvs) (fun j σ H' => Same H2 H' ∧ ∃ (hs : List HolE) (x5 x6 x7 x8 : Option V), HolAt H2 H' DH hs ∧ (∀ e, lookH hs e = (heldR (rows.take j) e).map VR.c) ∧ (∀ y ∈ hs, y.1 ∈ rows.map VR.c) ∧ σ = [some x, some (.ref r), some (.ref DS), some (.ref DM), some (.ref DH), x5, x6, x7, x8, none, none, none])
    ⟨s3, [], none, none, none, none, ⟨gH3, (fun _ z => nomatch z), List.nodup_nil, List.nodup_nil⟩, (fun e => rfl), (fun _ z => nomatch z), rfl⟩ (fun j σ H' _ h => SqT.of (h.1 _ _ (s2 _ _ grr))) ?_ ?_⟩
  · rintro j y σ H' hy ⟨s', hs, x5, x6, x7, x8, hA, hL, hK, rfl⟩
    obtain ⟨row, t, q4, hrow, rfl, gt, gq⟩ := row_of (tds.same s2) hy
    obtain ⟨hnd, hin⟩ := gv.hs row (List.mem_of_getElem? hrow)
    refine ⟨t, _, rfl, SqT.of (s' _ _ gt), rfl, _, _, rfl, _, _, rfl, _, _, rfl, _, _, rfl, rfl, ?_⟩
    refine ⟨_, rfl, q4, rfl, ⟨_, SqT.of (s' _ _ gq)⟩, for_tup (xs := intsN row.hs) (fun i σ H'' => Same H2 H'' ∧ ∃ (hs : List HolE) (x8 : Option V), HolAt H2 H'' DH hs ∧ (∀ e, lookH hs e = (heldR (rows.take j) e).map VR.c ++ if e ∈ row.hs.take i then [row.c] else []) ∧ (∀ y ∈ hs, y.1 ∈ rows.map VR.c) ∧ σ = [some x, some (.ref r), some (.ref DS), some (.ref DM), some (.ref DH), some (.int (row.c : Int)), some (.bl row.re), some (.ref q4), x8, none, none, none])
      ⟨s', hs, x8, hA, (fun e => by rw [hL e]; simp), hK, rfl⟩ (fun i σ H'' _ h => SqT.of (h.1 _ _ gq)) ?_ ?_⟩
    · rintro i z σ H'' hz ⟨s'', hs, x8, hA, hL, hK, rfl⟩
      obtain ⟨e, he, rfl⟩ := ints_at hz
      obtain ⟨ne, tm⟩ := take_mem hnd he
      have llk : (lookH hs e).length ≤ 9 := by
        rw [hL e, List.length_append]
        have h1 := heldR_len (rows.take j) e
        rw [List.length_take] at h1
        split
        · show _ + 1 ≤ 9; omega
        · show _ + 0 ≤ 9; omega
      refine ⟨.ref DH, rfl, DH, rfl, .inl ⟨_, .inl hA.d⟩, .int (e : Int), rfl, Nat.zero_le _, fun q0 nq0 => ?_⟩
      obtain ⟨R, eR⟩ : ∃ R : Hp → Prop, R = fun H5 => Same H2 H5 ∧ ∃ (hs : List HolE) (x8 : Option V), HolAt H2 H5 DH hs ∧ (∀ e, lookH hs e = (heldR (rows.take j) e).map VR.c ++ if e ∈ row.hs.take (i + 1) then [row.c] else []) ∧ (∀ y ∈ hs, y.1 ∈ rows.map VR.c) ∧ [some x, some (.ref r), some (.ref DS), some (.ref DM), some (.ref DH), some (.int (row.c : Int)), some (.bl row.re), some (.ref q4), some (.int (e : Int)), none, none, none] = [some x, some (.ref r), some (.ref DS), some (.ref DM), some (.ref DH), some (.int (row.c : Int)), some (.bl row.re), some (.ref q4), x8, none, none, none] := ⟨_, rfl⟩
      have hR : ∀ H5 hs5, Same H2 H5 → HolAt H2 H5 DH hs5 → (∀ f, lookH hs5 f = if f = e then lookH hs e ++ [row.c] else lookH hs f) → (∀ x ∈ hs5, x.1 = e ∨ ∃ y ∈ hs, y.1 = x.1) → R H5 := by
        intro H5 hs5 s5 hA5 hL5 hK5
        rw [eR]
        refine ⟨s5, hs5, _, hA5, fun f => ?_, fun y hy => ?_, rfl⟩
        · rw [hL5 f]
          by_cases c : f = e
          · subst c
            rw [if_pos rfl, hL, if_neg ne, if_pos ((tm f).mpr (.inr rfl)), List.append_nil]
          · rw [if_neg c, hL]
            congr 1
            have z : (f ∈ row.hs.take (i + 1)) = (f ∈ row.hs.take i) := propext ⟨fun h => ((tm f).mp h).resolve_right c, fun h => (tm f).mpr (.inl h)⟩
            simp only [z]
        · rcases hK5 y hy with h | ⟨u, hu, h⟩
          · rw [h]
            exact hin e (List.mem_of_getElem? he)
          · rw [← h]
            exact hK u hu
      obtain ⟨z1, z2, z3, z4⟩ := hol_set (R := R) hA s'' nq0 nH (by have := key8 hA hK; omega) (by omega) hR
      rw [eR] at z3 z4
      refine ⟨_, kN e, z1, rfl, z2, fun v hv => ?_, fun hv => ?_⟩
      · obtain ⟨xa, xs, rfl, gx, lx, R⟩ := z3 v hv
        exact ⟨.inl ⟨rfl, _, SqL.of gx⟩, _, rfl, xa, _, _, rfl, rfl, gx, lt_line (by unfold intsN; rw [List.length_map]; omega), R⟩
      · obtain ⟨gq5, R⟩ := z4 hv
        exact ⟨.inl ⟨rfl, _, SqL.of gq5⟩, _, rfl, q0, _, _, rfl, rfl, gq5, lt_line (by decide), R⟩
    · rintro σ H'' ⟨s'', hs, x8, hA, hL, hK, rfl⟩
      refine ⟨s'', hs, _, _, _, _, hA, fun e => ?_, hK, rfl⟩
      have el : (intsN row.hs).length = row.hs.length := by unfold intsN; rw [List.length_map]
      rw [hL e, heldR_take hrow, el, List.take_length]
  rintro σ H4 ⟨s24, hs, x5, x6, x7, x8, hA, hL, hK, rfl⟩
  rw [ln, List.take_length] at hL
  have gM4 := s24 _ _ gM
  have gS4 := s24 _ _ gS
  -- left
  refine ⟨DM, _, gM4, trivial, fun od => ?_⟩
  have fz : upd H4 DM (.frz od (.dK (kvOf (fun r => .int (mis [] r : Nat)) rows))) DM = some (.frz od (.dK (kvOf (fun r => .int (mis [] r : Nat)) rows))) := upd_same
  have fS : upd H4 DM (.frz od (.dK (kvOf (fun r => .int (mis [] r : Nat)) rows))) DS = some (.dK (kvOf (fun r => .bl r.st) rows)) := by rw [upd_ne sM]; exact gS4
  refine ⟨_, rfl, DM, od, rfl, .inl ⟨_, fz, fun LL nL => ?_⟩⟩
  have neL : LL ≠ DM := fun z => by rw [z, fz] at nL; cases nL
  have nL4 : H4 LL = none := by rwa [upd_ne neL] at nL
  have ekv : (kvOf (fun r => V.int (mis [] r : Nat)) rows).length = rows.length := by unfold kvOf; rw [List.length_map]
  refine lc_it walk_keys (fun i H' => Same (upd H4 DM (.frz od (.dK (kvOf (fun r => .int (mis [] r : Nat)) rows)))) H' ∧ H' LL = some (.lst (intsN (((rows.take i).filter (ready [])).map VR.c)))) ⟨Same.up nL, upd_same⟩ (fun i H' _ hp => hp.1 _ _ fz) ?_ ?_
  · rintro i y HA HB hi ⟨sA, gL⟩ ⟨rfl, k, v, hkv, rfl⟩
    unfold kvOf at hkv
    rw [List.getElem?_map] at hkv
    obtain ⟨row, hrow, ekk⟩ := Option.map_eq_some_iff.mp hkv
    cases ekk
    have hr2 := List.mem_of_getElem? hrow
    have e := filt_take (p := ready []) hrow
    have ll : (intsN (((rows.take i).filter (ready [])).map VR.c)).length < sizeLine := by
      refine lt_line ?_
      unfold intsN
      rw [List.length_map, List.length_map]
      have := List.length_filter_le (ready []) (rows.take i)
      rw [List.length_take] at this
      omega
    have sL : Same (upd H4 DM (.frz od (.dK (kvOf (fun r => .int (mis [] r : Nat)) rows)))) (upd HB LL (.lst (intsN (((rows.take i).filter (ready [])).map VR.c) ++ [V.int (row.c : Int)]))) := G.Same.putN sA nL
    refine ⟨rfl, _, rfl, _, rfl, DM, _, rfl, .inl ⟨_, _, .inr ⟨od, sA _ _ fz⟩, rfl, (kvOf_some (f := fun r => .int (mis [] r : Nat)) gv.nd hr2).symm⟩, rfl, _, rfl, ite2 (fun h => ?_) (fun h => ?_)⟩
    · refine ⟨_, rfl, _, rfl, DS, _, rfl, .inl ⟨_, _, .inl (sA _ _ fS), rfl, (kvOf_some (f := fun r => .bl r.st) gv.nd hr2).symm⟩, _, rfl, ?_⟩
      cases est : row.st with
      | false =>
        rw [show ready [] row = true by rw [ready_split, h, est]; rfl] at e
        refine iteT ⟨_, rfl, _, gL, ll, sL, ?_⟩
        rw [upd_same, e, if_pos rfl, intsN_app]
        rfl
      | true =>
        rw [show ready [] row = false by rw [ready_split, est, Bool.not_true, Bool.and_false]] at e
        refine iteF ⟨sA, ?_⟩
        rw [e, gL]
        simp
    · rw [show ready [] row = false by rw [ready_split, Bool.not_eq_true _ |>.mp h]; rfl] at e
      refine iteF ⟨sA, ?_⟩
      rw [e, gL]
      simp
  rintro H5 ⟨s5, gL5⟩
  rw [ekv, List.take_length] at gL5
  refine ⟨s5 _ _ fz, ?_⟩
  have g6M : upd H5 DM (.dK (kvOf (fun r => .int (mis [] r : Nat)) rows)) DM = some (.dK (kvOf (fun r => .int (mis [] r : Nat)) rows)) := upd_same
  have g6L : upd H5 DM (.dK (kvOf (fun r => .int (mis [] r : Nat)) rows)) LL = some (.lst (intsN ((rows.filter (ready [])).map VR.c))) := by rw [upd_ne neL]; exact gL5
  have s46 : Same H4 (upd H5 DM (.dK (kvOf (fun r => .int (mis [] r : Nat)) rows))) := fun a o h => by
    by_cases c : a = DM
    · rw [c] at h ⊢
      rw [upd_same, ← gM4, h]
    · rw [upd_ne c]
      exact s5 a o (by rw [upd_ne c]; exact h)
  generalize upd H5 DM (.dK (kvOf (fun r => .int (mis [] r : Nat)) rows)) = H6 at g6M g6L s46 ⊢
  -- named
  refine ⟨Nat.zero_le _, fun LN nN => ?_⟩
  have s7 := Same.up (o := HO.lst []) nN
  have g7N : upd H6 LN (HO.lst []) LN = some (.lst []) := upd_same
  generalize upd H6 LN (HO.lst []) = H7 at s7 g7N ⊢
  have s47 := Same.trans s46 s7
  have s04 := Same.trans s2 s24
  have cw0 : CW H H7 rows DS DM DH LL LN hs (kvOf (fun r => .int (mis [] r : Nat)) rows) ((rows.filter (ready [])).map VR.c) [] := {
    sm := Same.trans s04 s47
    s := s47 _ _ gS4
    m := s7 _ _ g6M
    h := ⟨s47 _ _ hA.d, fun x hx => ⟨s47 _ _ (hA.l x hx).1, s2.free (hA.l x hx).2⟩, hA.nd, hA.nk⟩
    l := s7 _ _ g6L
    n := g7N
    fs := nS
    fm := s1.free nM
    fh := s2.free nH
    fl := s04.free nL4
    fn := (Same.trans s04 s46).free nN
    sm_ne := sM
    mh_ne := mH
    ln_ne := ne_of_none g6L nN
    hl := fun x hx => ⟨ne_of_none (hA.l x hx).1 nL4, ne_of_none (s46 _ _ (hA.l x hx).1) nN⟩ }
  clear s47 s7 g7N s46 g6M g6L gL5 s5 fz fS nL gM4 gS4 hA s24 kp1 kp2 s12 nL4 nN gM gS s3 gH3
  obtain ⟨W, eW⟩ : ∃ W : Nat → L2.St → Hp → Prop, W = fun n σ H' => ∃ (N L : List Nat) (kvs : List (Key × V)) (y5 y8 : Option V), CW H H' rows DS DM DH LL LN hs kvs L N ∧ (∀ r ∈ rows, valV kvs (kN r.c) = some (.int (mis N r : Nat))) ∧ kvs.length ≤ 8 ∧ Wl rows N L ∧ n = rows.length - N.length ∧ σ = [some x, some (.ref r), some (.ref DS), some (.ref DM), some (.ref DH), y5, x6, x7, y8, some (.ref LL), some (.ref LN), none] := ⟨_, rfl⟩
  refine ⟨W, ⟨rows.length, by rw [eW]; exact ⟨[], _, _, x5, x8, cw0, fun r hr => kvOf_some (f := fun r => .int (mis [] r : Nat)) gv.nd hr, (by rw [ekv]; exact l8), Wl.start gv, rfl, rfl⟩⟩, ?_⟩
  clear cw0
  intro n σ H' hW
  rw [eW] at hW
  obtain ⟨N, L, kvs, y5, y8, cw, hv, lk, wl, en, rfl⟩ := hW
  rcases List.eq_nil_or_concat L with rfl | ⟨L0, y, rfl⟩
  · have lN := wl.len gv
    refine ⟨.ref LL, rfl, false, .inl ⟨_, SqL.of cw.l, rfl⟩, iteF ⟨_, rfl, LN, N.map fun (c : Nat) => (c : Int), rfl, SqL.of (by rw [intsN_cast]; exact cw.n), by rw [List.length_map]; omega, fun ns' p1 perm pw np => ?_⟩⟩
    obtain ⟨zs, ez, pz, wz⟩ := sorted_nat perm pw
    rw [ez]
    refine ⟨p1, _, rfl, .inl ⟨SqL.of upd_same, fun l nl => q _ l zs (Same.trans cw.sm (Same.trans (Same.up np) (Same.up nl))) upd_same wz ?_ fun c => (pz.mem_iff).trans (wl.done c)⟩⟩
    have z := wl.nd
    rw [List.append_nil] at z
    exact (pz.nodup_iff).mpr z
  · rw [List.concat_eq_append] at cw wl
    have lN := wl.len gv
    rw [List.length_append] at lN
    have lN : N.length + (L0.length + 1) ≤ rows.length := lN
    have eL : intsN (L0 ++ [y]) = intsN L0 ++ [V.int (y : Int)] := intsN_app L0 [y]
    refine ⟨.ref LL, rfl, true, .inl ⟨_, SqL.of cw.l, by rw [eL]; simp⟩, iteT ⟨fun σ' H' => ∃ m', m' < n ∧ W m' σ' H', fun _ _ hh => hh, ?_⟩⟩
    refine ⟨.ref LL, rfl, .inl ⟨rfl, _, SqL.of cw.l⟩, LL, _, .int (y : Int), rfl, rfl, cw.l, by rw [eL]; simp, ?_⟩
    have eD : (intsN (L0 ++ [y])).dropLast = intsN L0 := by rw [eL]; simp
    rw [eD]
    have c1 := cw.setL L0
    generalize upd H' LL (.lst (intsN L0)) = Ha at c1 ⊢
    refine ⟨_, rfl, .inl ⟨rfl, _, SqL.of c1.n⟩, _, rfl, LN, _, _, rfl, rfl, c1.n, lt_line (by unfold intsN; rw [List.length_map]; omega), ?_⟩
    have eN : intsN N ++ [V.int (y : Int)] = intsN (N ++ [y]) := (intsN_app N [y]).symm
    rw [eN]
    have c2 := c1.setN (N ++ [y])
    generalize upd Ha LN (.lst (intsN (N ++ [y]))) = Hb at c2 ⊢
    clear c1 cw
    refine ⟨.ref DH, rfl, DH, rfl, .inl ⟨_, .inl c2.h.d⟩, .int (y : Int), rfl, Nat.zero_le _, fun q0 nq0 => ?_⟩
    have s3 := Same.up (o := HO.lst []) nq0
    have gq0 : upd Hb q0 (HO.lst []) q0 = some (.lst []) := upd_same
    have q0L : LL ≠ q0 := ne_of_none c2.l nq0
    have q0N : LN ≠ q0 := ne_of_none c2.n nq0
    have c3 := c2.same s3
    generalize upd Hb q0 (HO.lst []) = Hc at s3 gq0 c3 ⊢
    clear c2 s3
    have yN : y ∉ N := fun h => (List.nodup_append.mp wl.nd).2.2 y h y (by simp) rfl
    obtain ⟨hl, ehl⟩ : ∃ hl, hl = (heldR rows y).map VR.c := ⟨_, rfl⟩
    have hnd : hl.Nodup := by rw [ehl]; exact heldR_nd gv.nd y
    have hll : hl.length ≤ 8 := by rw [ehl]; have := heldR_len rows y; omega
    obtain ⟨lq, elq, glq, lqL, lqM, lqN⟩ : ∃ lq : Addr, (valV (holK hs) (kN y)).getD (.ref q0) = .ref lq ∧ Hc lq = some (.lst (intsN hl)) ∧ lq ≠ LL ∧ lq ≠ DM ∧ lq ≠ LN := by
      cases ev : valV (holK hs) (kN y) with
      | none =>
        have z : lookH hs y = [] := by
          rw [holK_val] at ev
          have : (hs.find? fun x => decide (x.1 = y)) = none := by simpa using ev
          unfold lookH
          rw [this]
          rfl
        rw [hL, ← ehl] at z
        rw [z]
        exact ⟨q0, rfl, gq0, Ne.symm q0L, ne_of gq0 c3.m (by intro z; cases z), Ne.symm q0N⟩
      | some v =>
        obtain ⟨u, hu, rfl, hum, hue, hlk⟩ := c3.h.find ev
        rw [hL, ← ehl] at hlk
        rw [hlk]
        exact ⟨u.2.1, rfl, (c3.h.l u hum).1, (c3.hl u hum).1, ne_of (c3.h.l u hum).1 c3.m (by intro z; cases z), (c3.hl u hum).2⟩
    refine ⟨valV (holK hs) (kN y), .inl ⟨_, kN y, .inl c3.h.d, rfl, rfl⟩, lq, elq, ⟨_, SqL.of glq⟩, for_list (xs := intsN hl) (fun i σ H'' => H'' lq = some (.lst (intsN hl)) ∧ ∃ (kvs : List (Key × V)) (y5 : Option V), CW H H'' rows DS DM DH LL LN hs kvs (L0 ++ ((((heldR rows y).take i).filter (ready (N ++ [y]))).map VR.c)) (N ++ [y]) ∧ (∀ r ∈ rows, valV kvs (kN r.c) = some (.int (misI N y (hl.take i) r : Nat))) ∧ kvs.length ≤ 8 ∧ σ = [some x, some (.ref r), some (.ref DS), some (.ref DM), some (.ref DH), y5, x6, x7, some (.int (y : Int)), some (.ref LL), some (.ref LN), none])
      ⟨glq, kvs, y5, (by simpa using c3), (fun r hr => by rw [List.take_zero, misI_start]; exact hv r hr), lk, rfl⟩ (fun i σ H'' _ h => SqL.of h.1) ?_ ?_⟩
    · rintro i z σ H'' hz ⟨glq, kvs, y5, c4, hv, lk, rfl⟩
      obtain ⟨e, he, rfl⟩ := ints_at hz
      obtain ⟨ne, tm⟩ := take_mem hnd he
      obtain ⟨row, hrow, erc⟩ : ∃ row, (heldR rows y)[i]? = some row ∧ row.c = e := by
        rw [ehl, List.getElem?_map] at he
        exact Option.map_eq_some_iff.mp he
      subst erc
      have hrm := List.mem_of_getElem? hrow
      obtain ⟨hr2, hyr⟩ := List.mem_filter.mp hrm
      have hyr : y ∈ row.hs := of_decide_eq_true hyr
      have ms := mis_step yN (gv.hs row hr2).1
      rw [if_pos hyr] at ms
      have ev : valV kvs (kN row.c) = some (.int (mis N row : Nat)) := by
        rw [hv row hr2]
        unfold misI
        rw [if_neg ne]
      have li : i < hl.length := (List.getElem?_eq_some_iff.mp he).1
      refine ⟨_, rfl, _, rfl, DM, _, rfl, .inl ⟨_, _, .inl c4.m, rfl, ev.symm⟩, _, _, rfl, rfl, _, rfl, _, rfl, DM, _, rfl, DPut.k (k := kN row.c) c4.m (lt_line (by omega)), ?_⟩
      have e1 : V.int ((mis N row : Nat) - 1 : Int) = V.int (mis (N ++ [y]) row : Nat) := congrArg V.int (by omega)
      dsimp only
      rw [e1]
      have c5 := c4.setM (putK kvs (kN row.c) (V.int (mis (N ++ [y]) row : Nat)))
      have lk5 : (putK kvs (kN row.c) (V.int (mis (N ++ [y]) row : Nat))).length ≤ 8 := by
        rw [putK_same_len ev]
        exact lk
      have hv5 : ∀ r ∈ rows, valV (putK kvs (kN row.c) (V.int (mis (N ++ [y]) row : Nat))) (kN r.c) = some (.int (misI N y (hl.take (i + 1)) r : Nat)) := fun r hr => by
        rw [valV_put]
        by_cases c : r.c = row.c
        · have er := row_inj gv.nd hr hr2 c
          subst er
          rw [if_pos rfl]
          unfold misI
          rw [if_pos ((tm _).mpr (.inr rfl))]
        · rw [if_neg (fun z => c (kN_inj _ _ z)), hv r hr]
          unfold misI
          have z : (r.c ∈ hl.take (i + 1)) = (r.c ∈ hl.take i) := propext ⟨fun h => ((tm _).mp h).resolve_right c, fun h => (tm _).mpr (.inl h)⟩
          simp only [z]
      have gl5 : upd H'' DM (.dK (putK kvs (kN row.c) (V.int (mis (N ++ [y]) row : Nat)))) lq = some (.lst (intsN hl)) := by rw [upd_ne lqM]; exact glq
      generalize putK kvs (kN row.c) (V.int (mis (N ++ [y]) row : Nat)) = kvs5 at c5 lk5 hv5 gl5 ⊢
      generalize upd H'' DM (.dK kvs5) = H5 at c5 gl5 ⊢
      clear c4 hv glq ev
      have e := filt_take (p := ready (N ++ [y])) hrow
      have ev5 := hv5 row hr2
      unfold misI at ev5
      rw [if_pos ((tm _).mpr (.inr rfl))] at ev5
      have lpush : (intsN (L0 ++ (((heldR rows y).take i).filter (ready (N ++ [y]))).map VR.c)).length < sizeLine := by
        refine lt_line ?_
        unfold intsN
        rw [List.length_map, List.length_append, List.length_map]
        have := List.length_filter_le (ready (N ++ [y])) ((heldR rows y).take i)
        rw [List.length_take] at this
        omega
      refine ⟨_, rfl, _, rfl, DM, _, rfl, .inl ⟨_, _, .inl c5.m, rfl, ev5.symm⟩, rfl, _, rfl, ite2 (fun h => ?_) (fun h => ?_)⟩
      · refine ⟨_, rfl, _, rfl, DS, _, rfl, .inl ⟨_, _, .inl c5.s, rfl, (kvOf_some (f := fun r => .bl r.st) gv.nd hr2).symm⟩, _, rfl, ?_⟩
        cases est : row.st with
        | false =>
          rw [show ready (N ++ [y]) row = true by rw [ready_split, h, est]; rfl] at e
          have c6 := c5.setL (L0 ++ (((heldR rows y).take (i + 1)).filter (ready (N ++ [y]))).map VR.c)
          have el : intsN (L0 ++ (((heldR rows y).take i).filter (ready (N ++ [y]))).map VR.c) ++ [V.int (row.c : Int)] = intsN (L0 ++ (((heldR rows y).take (i + 1)).filter (ready (N ++ [y]))).map VR.c) := by
            rw [e, if_pos rfl, ← List.append_assoc, intsN_app _ [row.c]]
            rfl
          refine iteT ⟨_, rfl, .inl ⟨rfl, _, SqL.of c5.l⟩, _, rfl, LL, _, _, rfl, rfl, c5.l, lpush, ?_⟩
          rw [el]
          exact ⟨by rw [upd_ne lqL]; exact gl5, _, _, c6, hv5, lk5, rfl⟩
        | true =>
          rw [show ready (N ++ [y]) row = false by rw [ready_split, est, Bool.not_true, Bool.and_false]] at e
          refine iteF ⟨gl5, _, _, ?_, hv5, lk5, rfl⟩
          rw [e]
          simpa using c5
      · rw [show ready (N ++ [y]) row = false by rw [ready_split, Bool.not_eq_true _ |>.mp h]; rfl] at e
        refine iteF ⟨gl5, _, _, ?_, hv5, lk5, rfl⟩
        rw [e]
        simpa using c5
    · rintro σ H'' ⟨glq, kvs, y5, c4, hv, lk, rfl⟩
      have elh : (intsN hl).length = hl.length := by unfold intsN; rw [List.length_map]
      have elh2 : hl.length = (heldR rows y).length := by rw [ehl, List.length_map]
      rw [elh, List.take_length, ehl] at hv
      rw [elh, elh2, List.take_length] at c4
      refine ⟨rows.length - (N ++ [y]).length, by rw [List.length_append]; show rows.length - (N.length + 1) < n; omega, ?_⟩
      rw [eW]
      exact ⟨N ++ [y], _, kvs, _, _, c4, fun r hr => by rw [hv r hr, misI_end gv yN hr], lk, wl.step gv, rfl, rfl⟩
end
end G

set_option Elab.async false
set_option linter.all false
set_option maxRecDepth 100000
set_option maxHeartbeats 4000000
/-! Rules: their classes, names, calls. -/
namespace G
open PySem PySem.Spec PyProof.Rows L2 StX
inductive RK | never | all | counting | above | places
inductive RD
  | never
  | all
  | counting
  | above (m : Int)
  | places (ps : List Nat)
def RD.kind : RD → RK
  | .never => .never
  | .all => .all
  | .counting => .counting
  | .above _ => .above
  | .places _ => .places
def NamedBy (p : Int) (rows : List VR) : RD → List Nat → Prop
  | .never, zs => zs = []
  | .all, zs => zs = unre rows
  | .counting, zs => zs.Pairwise (· ≤ ·) ∧ zs.Nodup ∧ ∀ c, c ∈ zs ↔ Cnt rows c
  | .above m, zs => zs = if m < (rows.length : Int) then unre rows else []
  | .places ps, zs => zs = if p ∈ ps.map (fun (c : Nat) => (c : Int)) then unre rows else []
def RuleAt (cO : RK → Addr) (H : Hp) (x : Addr) : RD → Prop
  | .never => ∃ dx, H x = some (.ins (cO .never) dx [])
  | .all => ∃ dx, H x = some (.ins (cO .all) dx [])
  | .counting => ∃ dx, H x = some (.ins (cO .counting) dx [])
  | .above m => ∃ dx, H x = some (.ins (cO .above) dx [("_most", .int m)])
  | .places ps => ∃ dx t, H x = some (.ins (cO .places) dx [("_places", .ref t)]) ∧ H t = some (.tup (intsN ps))
theorem RuleAt.same {cO : RK → Addr} {H H' : Hp} {x : Addr} : ∀ {d : RD}, RuleAt cO H x d → Same H H' → RuleAt cO H' x d
  | .never, ⟨dx, h⟩, s => ⟨dx, s _ _ h⟩
  | .all, ⟨dx, h⟩, s => ⟨dx, s _ _ h⟩
  | .counting, ⟨dx, h⟩, s => ⟨dx, s _ _ h⟩
  | .above _, ⟨dx, h⟩, s => ⟨dx, s _ _ h⟩
  | .places _, ⟨dx, t, h, g⟩, s => ⟨dx, t, s _ _ h, s _ _ g⟩
theorem RuleAt.ins {cO : RK → Addr} {H : Hp} {x : Addr} : ∀ {d : RD}, RuleAt cO H x d → ∃ dx fs, H x = some (.ins (cO d.kind) dx fs) ∧ fs.lookup ("names" : Str) = none
  | .never, ⟨dx, h⟩ => ⟨dx, [], h, rfl⟩
  | .all, ⟨dx, h⟩ => ⟨dx, [], h, rfl⟩
  | .counting, ⟨dx, h⟩ => ⟨dx, [], h, rfl⟩
  | .above m, ⟨dx, h⟩ => ⟨dx, [("_most", .int m)], h, rfl⟩
  | .places _, ⟨dx, t, h, _⟩ => ⟨dx, [("_places", .ref t)], h, rfl⟩
def spNm (cO : RK → Addr) (k : RK) : Sp := fun vs H Q _ => ∃ (x : Addr) (d : RD) (v : V) (m p : Int) (rows : List VR), vs = [.ref x, v] ∧ d.kind = k ∧ RuleAt cO H x d ∧ TD H v (viewD m p rows) ∧ GoodV rows ∧ ∀ H' t zs, Same H H' → H' t = some (.tup (intsN zs)) → NamedBy p rows d zs → Q (.ref t) H'
theorem pe_ex {X : Cx} {e : Expr} {ι : Type} {t : ι → TE} (h : ∀ i, PE X e (t i)) : PE X e (fun σ H Q => ∃ i, t i σ H Q) := ⟨fun pins s σ H Q I ⟨i, q⟩ => (h i).run pins s σ H Q I q⟩
theorem inV_int (i : Int) (ks : List Int) : inV (.int i) (ks.map V.int) = decide (i ∈ ks) := by
  induction ks with
  | nil => rfl
  | cons k r ih =>
    show (eqV (V.int k) (V.int i) || inV (.int i) (r.map V.int)) = _
    rw [ih]
    by_cases c : i = k
    · subst c
      rw [show eqV (V.int i) (V.int i) = true from decide_eq_true rfl, decide_eq_true (List.mem_cons_self ..)]
      rfl
    · rw [show eqV (V.int k) (V.int i) = false from decide_eq_false (fun z => c z.symm)]
      show decide (i ∈ r) = decide (i ∈ k :: r)
      by_cases m : i ∈ r
      · rw [decide_eq_true m, decide_eq_true (List.mem_cons_of_mem _ m)]
      · rw [decide_eq_false m, decide_eq_false (fun z => (List.mem_cons.mp z).elim c m)]
theorem flat_ints (ks : List Int) : (ks.map V.int).all flatV = true := by
  rw [List.all_map]
  exact List.all_eq_true.mpr fun _ _ => rfl
theorem inV_intsN {p : Int} {ps : List Nat} : inV (.int p) (intsN ps) = decide (p ∈ ps.map (fun (c : Nat) => (c : Int))) := by
  rw [← intsN_cast, inV_int]
section
variable {X : Cx} {CX : CXT} {k : Nat} {ι : Type} {cO : ι → Addr} {m : Str} {ps : List Str} {sp : ι → Sp} {E : XK} {o e : Expr} {es : List Expr} {ta : TE} {t : TA} {apos pos : Pos}
def tMethA (cO : ι → Addr) (m : Str) (sp : ι → Sp) (E : XK) (ta : TE) (t : TA) : TE := fun σ H Q => ta σ H fun x H1 => ∃ i a dx fs, x = .ref a ∧ H1 a = some (.ins (cO i) dx fs) ∧ fs.lookup m = none ∧ t σ H1 fun vs H2 => sp i (x :: vs) H2 Q E
theorem pe_methA {pl : Sem Bool} (he : PE X o ta) (hm : ∀ i, Cls X.K (cO i) ∧ ∃ f fd, Meth X.K (cO i) m f ∧ FnOk X.prog X.w X.K X.mg X.base CX k f fd ps (sp i) ∧ Binds X.K fd ps []) (hr : Room k X.A) (hx : Passes CX X E) (ha : PA X (e :: es) t)
    (hst : starEach (e :: es) X.env = (false, eval e X.env) :: starEach es X.env := by rfl) (hpl : (backTo pos (starEach es X.env)).any (·.1) = false := by rfl)
    (ht : eval (.Call (.Attribute o m apos) (e :: es) [] pos) X.env = (do
      let ov ← eval o X.env
      standAt apos.atName
      let (f, first) ← holding [ov] (getMethod ov m pl)
      callWith pos f first (backTo pos (starEach (e :: es) X.env)) (backToKw pos (keywordEach [] X.env))) := by rfl) :
    PE X (.Call (.Attribute o m apos) (e :: es) [] pos) (tMethA cO m sp E ta t) := by
  refine ⟨fun pins s σ H Q I h => ?_⟩
  refine PySem.W.methodCall_KW (pl := pl) (thn (he.run pins s σ H _ I h) fun u s1 ⟨x, H1, I1, rx, i, a, dx, fs, ex, ea, l, q⟩ => ?_) ht
  obtain ⟨c, f, fd, M, F, hb⟩ := hm i
  subst ex
  obtain rfl : u = Value.ref a := rx
  refine getmeth_ok I1 ea c M l ?_
  refine PySem.W.callWith_K (first := [.ref a]) (h₀ := X.base) I.ok.mod.kin M.kp (thn (ha.run pos pins s1 σ H1 _ I1 q) fun us s2 ⟨vs, H2, I2, r, q2⟩ => ⟨I2.kIn, ?_⟩) hst hpl
  have e0 : (V.ref a :: vs) ++ [] = V.ref a :: vs := List.append_nil _
  exact run_fn (us := .ref a :: us) (vs := .ref a :: vs) F hr hb .nil hx I2 (.cons rfl r) (by rw [e0]; exact q2)
end
section
variable {P : Program} {w : World} {K : PySem.W.Frag} {mg : Str → Option Value} {base : Heap} {cO : RK → Addr}
abbrev s_rnames : Stmt := inClass (top 2) 1
abbrev n_sv : List Str := ["self", "view"]
theorem sc_rnames : FnScope n_sv ["self", "view"] (defScope s_rnames) := ⟨rfl, rfl, rfl, by decide +kernel, rfl, by decide +kernel, by decide +kernel⟩
theorem ok_rn {f : Addr} {fd : FuncData} (F : Fun K "names" "Rule.names" s_rnames f fd) : FnOk P w K mg base CX0 2 f fd ["self", "view"] (spNm cO .never) := by
  refine F.ok sc_rnames (fun vs H Q E ⟨_, _, _, _, _, _, ev, _⟩ => by rw [ev]; rfl) (fun cdv A outer s H vs Q E hr ⟨x, d, v, m, p, rows, ev, ek, hR, td, gv, q⟩ => ?_)
  subst ev
  refine ⟨_, pss_one (ps_ret (pe_tup pa_nil)), Nat.zero_le _, fun t nt => q _ t [] (Same.up nt) upd_same ?_⟩
  cases d <;> first | rfl | cases ek
abbrev s_anames : Stmt := inClass (top 7) 0
theorem sc_anames : FnScope n_sv ["self", "view"] (defScope s_anames) := ⟨rfl, rfl, rfl, by decide +kernel, rfl, by decide +kernel, by decide +kernel⟩
theorem ok_an {f fU : Addr} {fd dU : FuncData} (F : Fun K "names" "AtOnce.names" s_anames f fd) (DU : Df K mg "_unreached" s__unreached ["view"] fU dU) (GU : FnOk P w K mg base CX0 1 fU dU ["view"] spUn) : FnOk P w K mg base CX0 2 f fd ["self", "view"] (spNm cO .all) := by
  refine F.ok sc_anames (fun vs H Q E ⟨_, _, _, _, _, _, ev, _⟩ => by rw [ev]; rfl) (fun cdv A outer s H vs Q E hr ⟨x, d, v, m, p, rows, ev, ek, hR, td, gv, q⟩ => ?_)
  subst ev
  refine ⟨_, pss_one (ps_ret (pe_call GU hr (by rfl) DU.m DU.F.kp DU.b .nil pass0 (pa_cons (pv 1) pa_nil))), _, rfl, v, m, p, rows, rfl, td, gv.len, fun H' t s' gt => q _ t _ s' gt ?_⟩
  cases d <;> first | rfl | cases ek
theorem ok_cnN {f : Addr} {fd : FuncData} (G : FnOk P w K mg base CX0 1 f fd ["self", "view"] spCn) : FnOk P w K mg base CX0 2 f fd ["self", "view"] (spNm cO .counting) := by
  refine (G.imp fun vs H Q E ⟨x, d, v, m, p, rows, ev, ek, hR, td, gv, q⟩ => ⟨.ref x, v, m, p, rows, ev, td, gv, fun H' t zs s' gt h1 h2 h3 => q H' t zs s' gt ?_⟩).mono (by decide)
  cases d <;> first | exact ⟨h1, h2, h3⟩ | cases ek
abbrev s_pnames : Stmt := inClass (top 9) 1
theorem sc_pnames : FnScope n_sv ["self", "view"] (defScope s_pnames) := ⟨rfl, rfl, rfl, by decide +kernel, rfl, by decide +kernel, by decide +kernel⟩
theorem ok_pn {f fU : Addr} {fd dU : FuncData} (F : Fun K "names" "Places.names" s_pnames f fd) (C : Cls K (cO .places)) (N : NoAttr K (cO .places) "_places") (DU : Df K mg "_unreached" s__unreached ["view"] fU dU) (GU : FnOk P w K mg base CX0 1 fU dU ["view"] spUn) : FnOk P w K mg base CX0 2 f fd ["self", "view"] (spNm cO .places) := by
  refine F.ok sc_pnames (fun vs H Q E ⟨_, _, _, _, _, _, ev, _⟩ => by rw [ev]; rfl) (fun cdv A outer s H vs Q E hr ⟨x, d, v, m, p, rows, ev, ek, hR, td, gv, q⟩ => ?_)
  subst ev
  refine ⟨_, (pss_one (ps_ret (pe_ifExp (pt_cmpR op_in_seq (pe_ix ix_tup (pv 1) pe_int (fun _ _ => rfl)) (pe_fld (pv 0) rfl) (by rfl)) (pe_call GU hr (by rfl) DU.m DU.F.kp DU.b .nil pass0 (pa_cons (pv 1) pa_nil)) (pe_tup pa_nil)))), ?_⟩
  obtain ⟨r, rr, rvs, rfl, gr, grr, tds⟩ := view_at td
  cases d <;> first | cases ek | skip
  rename_i ps
  obtain ⟨dx, t, hx, ht⟩ := hR
  have fl : (intsN ps).all flatV = true := List.all_eq_true.mpr fun v hv => by
    obtain ⟨c, _, rfl⟩ := List.mem_map.mp hv
    rfl
  refine ⟨_, rfl, r, _, _, _, rfl, rfl, SqT.of gr, atI_nat (j := 1) rfl, .ref x, rfl, x, _, dx, _, _, rfl, hx, C, N, rfl, t, _, rfl, .inr (SqT.of ht), rfl, fl, _, rfl, ?_⟩
  rw [inV_intsN]
  refine ite2 (fun h => ?_) (fun h => ?_)
  · have h := of_decide_eq_true h
    exact ⟨_, rfl, .ref r, m, p, rows, rfl, td, gv.len, fun H' t' s' gt => q _ t' _ s' gt (by show _ = if _ then _ else _; rw [if_pos h])⟩
  · have h : ¬ p ∈ ps.map (fun (c : Nat) => (c : Int)) := fun z => h (decide_eq_true z)
    exact ⟨Nat.zero_le _, fun t' nt => q _ t' [] (Same.up nt) upd_same (by show _ = if _ then _ else _; rw [if_neg h])⟩
abbrev s_bnames : Stmt := inClass (top 10) 1
theorem sc_bnames : FnScope n_sv ["self", "view"] (defScope s_bnames) := ⟨rfl, rfl, rfl, by decide +kernel, rfl, by decide +kernel, by decide +kernel⟩
theorem ok_bn {f fU : Addr} {fd dU : FuncData} (F : Fun K "names" "Above.names" s_bnames f fd) (z_len : mg "len" = none) (C : Cls K (cO .above)) (N : NoAttr K (cO .above) "_most") (DU : Df K mg "_unreached" s__unreached ["view"] fU dU) (GU : FnOk P w K mg base CX0 1 fU dU ["view"] spUn) : FnOk P w K mg base CX0 2 f fd ["self", "view"] (spNm cO .above) := by
  refine F.ok sc_bnames (fun vs H Q E ⟨_, _, _, _, _, _, ev, _⟩ => by rw [ev]; rfl) (fun cdv A outer s H vs Q E hr ⟨x, d, v, m, p, rows, ev, ek, hR, td, gv, q⟩ => ?_)
  subst ev
  refine ⟨_, (pss_one (ps_ret (pe_ifExp (pt_cmpR op_gt (pe_callB call_len_seq (by rfl) z_len (by decide +kernel) (pa_cons (pe_ix ix_tup (pv 1) pe_int (fun _ _ => rfl)) pa_nil)) (pe_fld (pv 0) rfl) (nomark _)) (pe_call GU hr (by rfl) DU.m DU.F.kp DU.b .nil pass0 (pa_cons (pv 1) pa_nil)) (pe_tup pa_nil)))), ?_⟩
  obtain ⟨r, rr, rvs, rfl, gr, grr, tds⟩ := view_at td
  have ln : rvs.length = rows.length := by rw [tds.len, List.length_map]
  cases d <;> first | cases ek | skip
  rename_i mo
  obtain ⟨dx, hx⟩ := hR
  refine ⟨_, rfl, r, _, _, _, rfl, rfl, SqT.of gr, atI_nat (j := 2) rfl, rr, _, rfl, .inr (SqT.of grr), .ref x, rfl, x, _, dx, _, _, rfl, hx, C, N, rfl, _, _, rfl, rfl, _, rfl, ite2 (fun h => ?_) (fun h => ?_)⟩
  · have h : mo < (rvs.length : Int) := of_decide_eq_true h
    exact ⟨_, rfl, .ref r, m, p, rows, rfl, td, gv.len, fun H' t' s' gt => q _ t' _ s' gt (by show _ = if _ then _ else _; rw [if_pos (by omega)])⟩
  · have h : ¬ mo < (rvs.length : Int) := fun z => h (decide_eq_true z)
    exact ⟨Nat.zero_le _, fun t' nt => q _ t' [] (Same.up nt) upd_same (by show _ = if _ then _ else _; rw [if_neg (by omega)])⟩
/-- what a rule's classes have -/
structure Rls (P : Program) (w : World) (K : PySem.W.Frag) (mg : Str → Option Value) (base : Heap) (cO : RK → Addr) : Prop where
  cl : ∀ k, Cls K (cO k)
  nm : ∀ k, ∃ f fd, Meth K (cO k) "names" f ∧ FnOk P w K mg base CX0 2 f fd ["self", "view"] (spNm cO k) ∧ Binds K fd ["self", "view"] []
abbrev s_rcall : Stmt := inClass (top 2) 0
theorem sc_rcall : FnScope n_sv ["self", "view"] (defScope s_rcall) := ⟨rfl, rfl, rfl, by decide +kernel, rfl, by decide +kernel, by decide +kernel⟩
def spCl (cO : RK → Addr) : Sp := fun vs H Q E => ∃ k, spNm cO k vs H Q E
theorem ok_rc {f : Addr} {fd : FuncData} (F : Fun K "__call__" "Rule.__call__" s_rcall f fd) (Z : Rls P w K mg base cO) : FnOk P w K mg base CX0 3 f fd ["self", "view"] (spCl cO) := by
  refine F.ok sc_rcall (fun vs H Q E ⟨_, _, _, _, _, _, _, ev, _⟩ => by rw [ev]; rfl) (fun cdv A outer s H vs Q E hr ⟨k, x, d, v, m, p, rows, ev, ek, hR, td, gv, q⟩ => ?_)
  subst ev
  subst ek
  obtain ⟨dx, fs, hx, hl⟩ := hR.ins
  exact ⟨_, pss_one (ps_ret (pe_methA (cO := cO) (sp := fun k => spNm cO k) (pv 0) (fun k => ⟨Z.cl k, Z.nm k⟩) hr pass0 (pa_cons (pv 1) pa_nil))), _, rfl, d.kind, x, dx, fs, rfl, hx, hl, _, rfl, x, d, v, m, p, rows, rfl, rfl, hR, td, gv, q⟩
end
end G

set_option Elab.async false
set_option linter.all false
set_option maxRecDepth 100000
set_option maxHeartbeats 4000000
/-! _law_counted. -/
namespace G
open PySem PySem.Spec PyProof.Rows L2 StX
theorem ints_dp {K : PySem.W.Frag} {H : Hp} : ∀ l : List Nat, DpAll K H (intsN l) (intD l)
  | [] => .nil
  | c :: r => .cons (.int _) (ints_dp r)
theorem eqv_nil (l : List Nat) : PyData.eqv (.list (intD l)) (.list []) = l.isEmpty := by
  cases l <;> rfl
theorem lay_ints : ∀ l : List Nat, PyData.canLayAll0 (intD l) = true ∧ PyData.depthAll (intD l) = 0
  | [] => ⟨rfl, rfl⟩
  | c :: r => by
    obtain ⟨a, b⟩ := lay_ints r
    have e : intD (c :: r) = .int (c : Int) :: intD r := rfl
    rw [e]
    constructor
    · simp only [PyData.canLayAll0, PyData.canLay0, a, Bool.and_self]
    · simp only [PyData.depthAll, PyData.depth, b, Nat.max_self]
theorem shaped_ints (l : List Nat) : SeqAt.shaped (.list (intD l)) = true := by
  obtain ⟨a, b⟩ := lay_ints l
  unfold SeqAt.shaped
  simp only [PyData.canLay0, PyData.depth, a, b]
  decide
theorem inV_nat {e : Nat} {M : List Nat} : inV (.int (e : Int)) (intsN M) = decide (e ∈ M) := by
  rw [inV_intsN]
  by_cases h : e ∈ M
  · rw [decide_eq_true h, decide_eq_true (List.mem_map.mpr ⟨e, h, rfl⟩)]
  · rw [decide_eq_false h, decide_eq_false fun z => ?_]
    obtain ⟨c, hc, ec⟩ := List.mem_map.mp z
    have : c = e := by omega
    exact h (by rw [← this]; exact hc)
theorem flat_intsN (M : List Nat) : (intsN M).all flatV = true := by rw [← intsN_cast]; exact flat_ints _
def notin (M : List Nat) (l : List Nat) : List Nat := l.filter fun h => decide (h ∉ M)
theorem notin_nil {M l : List Nat} : (notin M l).isEmpty = true ↔ ∀ h ∈ l, h ∈ M := by
  unfold notin
  rw [List.isEmpty_iff, List.filter_eq_nil_iff]
  constructor
  · intro h x hx
    have z := h x hx
    simpa using z
  · intro h x hx
    have z := h x hx
    simpa using z
theorem notin_take {M l : List Nat} {i e : Nat} (h : l[i]? = some e) : notin M (l.take (i + 1)) = notin M (l.take i) ++ if e ∈ M then [] else [e] := by
  unfold notin
  rw [List.take_add_one, h, List.filter_append]
  congr 1
  by_cases c : e ∈ M <;> simp [c]
structure Cd (rows : List VR) (N : List Nat) : Prop where
  nd : N.Nodup
  sub : ∀ x ∈ N, ∃ r ∈ rows, r.c = x
  snd : ∀ x ∈ N, Cnt rows x
def Clo (rows : List VR) (N : List Nat) : Prop := ∀ r ∈ rows, ready N r = true → r.c ∈ N
theorem Cd.push {rows : List VR} {N : List Nat} {r : VR} (c : Cd rows N) (hr : r ∈ rows) (h : ready N r = true) (hn : r.c ∉ N) : Cd rows (N ++ [r.c]) := by
  obtain ⟨a, b⟩ := ready_iff.mp h
  refine ⟨?_, fun x hx => ?_, fun x hx => ?_⟩
  · refine List.nodup_append.mpr ⟨c.nd, by simp, fun x hx y hy e => ?_⟩
    rw [List.mem_singleton.mp hy] at e
    exact hn (by rw [← e]; exact hx)
  · rcases List.mem_append.mp hx with h | h
    · exact c.sub x h
    · exact ⟨r, hr, (List.mem_singleton.mp h).symm⟩
  · rcases List.mem_append.mp hx with h | h
    · exact c.snd x h
    · rw [List.mem_singleton.mp h]
      exact .mk r hr a fun z hz => c.snd z (b z hz)
theorem Cd.len {rows : List VR} {N : List Nat} (c : Cd rows N) : N.length ≤ rows.length :=
  nd_len rows.length (m := rows.map VR.c) (List.length_map _) c.nd fun x hx => by
    obtain ⟨r, hr, e⟩ := c.sub x hx
    exact List.mem_map.mpr ⟨r, hr, e⟩
section
variable {P : Program} {w : World} {K : PySem.W.Frag} {mg : Str → Option Value} {base : Heap}
abbrev s__law_counted : Stmt := top 18
abbrev n__law_counted : List Str := ["_law_rows", "_law_named_here", "_law_many", "_law_cell", "_law_stands", "_law_reached", "_law_holders", "_law_left", "_law_one_here"]
theorem sc__law_counted : FnScope n__law_counted ["_law_rows"] (defScope s__law_counted) := ⟨rfl, rfl, rfl, by decide +kernel, rfl, by decide +kernel, by decide +kernel⟩
def spCo : Sp := fun vs H Q _ => ∃ (rr : Addr) (rvs : List V) (rows : List VR), vs = [.ref rr] ∧ H rr = some (.tup rvs) ∧ TDs H rvs (rows.map VR.data) ∧ GoodV rows ∧ ∀ H' L zs, Same H H' → H L = none → H' L = some (.lst (intsN zs)) → zs.Pairwise (· ≤ ·) → zs.Nodup → (∀ c, c ∈ zs ↔ Cnt rows c) → Q (.ref L) H'
theorem ok_co {f : Addr} {fd : FuncData} (F : Fun K "_law_counted" "_law_counted" s__law_counted f fd) (z_len : mg "len" = none) (z_sorted : mg "sorted" = none) : FnOk P w K mg base CX0 1 f fd ["_law_rows"] spCo := by
  refine F.ok sc__law_counted (fun vs H Q E ⟨_, _, _, ev, _⟩ => by rw [ev]; rfl) (fun cdv A outer s H vs Q E hr ⟨rr, rvs, rows, ev, grr, tds, gv, q⟩ => ?_)
  subst ev
  have hu64 : (A.deeper (envOfC "_law_counted" (defScope s__law_counted) s.heap.objs.size f cdv)).units + 64 < cLine := by have := hr.un; omega
  refine ⟨_, (pss_cons (ps_asg (pe_tup (pa_cons (pe_lst pa_nil) (pa_cons (pe_un un_neg pe_int) pa_nil))) (pg_tup rfl (pgs_cons (pg_name (i := 1) sc__law_counted.nd rfl (.inr rfl)) (pgs_cons (pg_name (i := 2) sc__law_counted.nd rfl (.inl rfl)) pgs_nil))))
      (pss_cons (ps_while PassesOwn.never (pt_cmpR op_lt (pv 2) (pe_callB call_len_seq (by rfl) z_len (by decide +kernel) (pa_cons (pv 1) pa_nil)) (nomark _)) (pss_cons (ps_set (i := 2) sc__law_counted.nd rfl (.inl rfl) (pe_callB call_len_seq (by rfl) z_len (by decide +kernel) (pa_cons (pv 1) pa_nil)))
      (pss_one (ps_for PassesOwn.never rfl (pi_tup (pv 0)) (pg_tup rfl (pgs_cons (pg_name (i := 3) sc__law_counted.nd rfl (.inl rfl)) (pgs_cons (pg_name (i := 4) sc__law_counted.nd rfl (.inl rfl)) (pgs_cons (pg_name (i := 5) sc__law_counted.nd rfl (.inl rfl)) (pgs_cons (pg_name (i := 6) sc__law_counted.nd rfl (.inl rfl)) pgs_nil)))))
      (pss_cons (ps_setLc (i := 7) (tt := tTest (tOp (rIn K true) (tVar 8) (tVar 1))) (own := [("_law_one_here", 8)]) (by rfl) sc__law_counted.nd rfl rfl (sw_true rfl rfl rfl (by decide +kernel)) (pi_tup (pv 6)) (blkOk_by (N := n__law_counted) (sc := defScope s__law_counted) (by decide +kernel)) (fun _ _ _ _ _ => (pg_name (i := 8) sc__law_counted.nd rfl (.inl rfl))) (fun _ _ _ _ _ => pts_one (pt_cmpR op_notIn_seq (pv 8) (pv 1) (by rfl))) (fun _ _ _ _ _ => (pv 8)))
      (pss_one (ps_if (PW.pt (pw_and (pt_not (pt_val (pv 4))) (pw_and (pt_cmpR op_notIn_seq (pv 3) (pv 1) (by rfl)) (pw_and1 (pt_cmpR (op_eqD hu64) (pv 7) (pe_lst pa_nil) (nomark _))))))
      (pss_one (ps_expr (pe_bm PySem.F.plainAttrs_list PySem.F.slot_list_append PySem.F.type_list_append mt_append (pv 1) (pa_cons (pv 3) pa_nil))))
      pss_nil)))))))
      (pss_one (ps_ret (pe_callB cr_sorted (by rfl) z_sorted (by decide +kernel) (pa_cons (pv 1) pa_nil)))))), ?_⟩
  have ln : rvs.length = rows.length := by rw [tds.len, List.length_map]
  have l8 := gv.len
  refine ⟨Nat.zero_le _, fun LN nN => ⟨1, rfl, line1000 (Nat.le_of_ble_eq_true rfl), fun pt npt => ?_⟩⟩
  have sA := Same.up (o := HO.lst []) nN
  have gA : upd H LN (HO.lst []) LN = some (.lst []) := upd_same
  generalize upd H LN (HO.lst []) = HA at sA gA npt ⊢
  have sB := Same.up (o := HO.tup [V.ref LN, V.int (-1)]) npt
  refine ⟨pt, _, rfl, SqT.of upd_same, rfl, _, _, rfl, _, _, rfl, rfl, ?_⟩
  have gB := sB _ _ gA
  have s1 := Same.trans sA sB
  show tSeq _ _ _ [some (V.ref rr), some (V.ref LN), some (V.int (-1)), none, none, none, none, none, none] (upd HA pt (HO.tup [V.ref LN, V.int (-1)]))
  generalize upd HA pt (HO.tup [V.ref LN, V.int (-1)]) = H1 at s1 gB ⊢
  clear sA sB gA npt
  obtain ⟨W, eW⟩ : ∃ W : Nat → L2.St → Hp → Prop, W = fun n σ H' => ∃ (N : List Nat) (mn : Int) (x3 x4 x5 x6 x7 x8 : Option V), Same H H' ∧ H' LN = some (.lst (intsN N)) ∧ Cd rows N ∧ mn ≤ (N.length : Int) ∧ (mn = (N.length : Int) → Clo rows N) ∧ n = 2 * (rows.length - N.length) + (if mn < (N.length : Int) then 1 else 0) ∧ σ = [some (.ref rr), some (.ref LN), some (.int mn), x3, x4, x5, x6, x7, x8] := ⟨_, rfl⟩
  refine ⟨W, ⟨_, by rw [eW]; exact ⟨[], -1, none, none, none, none, none, none, s1, gB, ⟨List.nodup_nil, (fun _ z => nomatch z), (fun _ z => nomatch z)⟩, (by decide), (fun z => absurd z (by decide)), rfl, rfl⟩⟩, ?_⟩
  clear s1 gB
  intro n σ H' hW
  rw [eW] at hW
  obtain ⟨N, mn, x3, x4, x5, x6, x7, x8, sm, gN, cd, hm, hc, en, rfl⟩ := hW
  have lN := cd.len
  have eln : ((intsN N).length : Int) = (N.length : Int) := by unfold intsN; rw [List.length_map]
  refine ⟨_, rfl, _, rfl, LN, _, rfl, .inl (SqL.of gN), _, _, rfl, rfl, _, rfl, ?_⟩
  dsimp only
  rw [eln]
  refine ite2 (fun h => ?_) (fun h => ?_)
  · have h : mn < (N.length : Int) := of_decide_eq_true h
    rw [if_pos h] at en
    refine ⟨fun σ' H' => ∃ m', m' < n ∧ W m' σ' H', fun _ _ hh => hh, ?_⟩
    refine ⟨_, rfl, LN, _, rfl, .inl (SqL.of gN), ?_⟩
    rw [eln]
    refine ⟨_, rfl, rr, rfl, ⟨_, SqT.of (sm _ _ grr)⟩, for_tup (xs := rvs) (fun j σ H'' => Same H H'' ∧ ∃ (A : List Nat) (x3 x4 x5 x6 x7 x8 : Option V), H'' LN = some (.lst (intsN (N ++ A))) ∧ Cd rows (N ++ A) ∧ (A = [] → ∀ r ∈ rows.take j, ready N r = true → r.c ∈ N) ∧ σ = [some (.ref rr), some (.ref LN), some (.int (N.length : Int)), x3, x4, x5, x6, x7, x8])
      ⟨sm, [], x3, x4, x5, x6, x7, x8, by rw [List.append_nil]; exact gN, by rw [List.append_nil]; exact cd, (fun _ _ z => nomatch z), rfl⟩ (fun j σ H'' _ h => SqT.of (h.1 _ _ grr)) ?_ ?_⟩
    · rintro j y σ H'' hy ⟨s'', A, x3, x4, x5, x6, x7, x8, gM, cdM, hA, rfl⟩
      obtain ⟨row, t, q4, hrow, rfl, gt, gq⟩ := row_of tds hy
      have hrm := List.mem_of_getElem? hrow
      obtain ⟨M, eM⟩ : ∃ M, M = N ++ A := ⟨_, rfl⟩
      rw [← eM] at gM cdM
      have lM := cdM.len
      have fin : ∀ (x7 x8 : Option V) (H3 : Hp), Same H'' H3 → ¬ (ready M row = true ∧ row.c ∉ M) → Same H H3 ∧ ∃ (A : List Nat) (y3 y4 y5 y6 y7 y8 : Option V), H3 LN = some (.lst (intsN (N ++ A))) ∧ Cd rows (N ++ A) ∧ (A = [] → ∀ r ∈ rows.take (j + 1), ready N r = true → r.c ∈ N) ∧ [some (.ref rr), some (.ref LN), some (.int (N.length : Int)), some (.int (row.c : Int)), some (.bl row.st), some (.bl row.re), some (.ref q4), x7, x8] = [some (.ref rr), some (.ref LN), some (.int (N.length : Int)), y3, y4, y5, y6, y7, y8] := fun x7 x8 H3 s3 hno => by
        refine ⟨Same.trans s'' s3, A, _, _, _, _, _, _, by rw [← eM]; exact s3 _ _ gM, by rw [← eM]; exact cdM, fun eA r hr hrd => ?_, rfl⟩
        rw [List.take_add_one, hrow] at hr
        rcases List.mem_append.mp hr with h | h
        · exact hA eA r h hrd
        · have er : r = row := by simpa using h
          subst er
          have eMN : M = N := by rw [eM, eA, List.append_nil]
          by_cases c : r.c ∈ N
          · exact c
          · exact absurd ⟨by rw [eMN]; exact hrd, by rw [eMN]; exact c⟩ hno
      refine ⟨t, _, rfl, SqT.of (s'' _ _ gt), rfl, _, _, rfl, _, _, rfl, _, _, rfl, _, _, rfl, rfl, ?_⟩
      refine ⟨_, rfl, q4, rfl, ⟨_, SqT.of (s'' _ _ gq)⟩, fun LL nL => ?_⟩
      refine lc_tup (xs := intsN row.hs) (fun i H3 => Kp [LL] H'' H3 ∧ H3 LL = some (.lst (intsN (notin M (row.hs.take i))))) ⟨(Kp.refl _ _).new nL, upd_same⟩ (fun i H3 _ hp => SqT.of (hp.1 _ _ (by simp; intro z; rw [← z, s'' _ _ gq] at nL; cases nL) (s'' _ _ gq))) ?_ ?_
      · rintro i z H3 hz ⟨kp, gL⟩
        obtain ⟨e, he, rfl⟩ := ints_at hz
        have s3 : Same H'' H3 := (kp.fresh nL).toSame
        have li : i < row.hs.length := (List.getElem?_eq_some_iff.mp he).1
        have lh8 : row.hs.length ≤ 8 := by
          obtain ⟨h1, h2⟩ := gv.hs row hrm
          have := nd_len rows.length (m := rows.map VR.c) (List.length_map _) h1 h2
          omega
        have ll : (intsN (notin M (row.hs.take i))).length < sizeLine := by
          refine lt_line ?_
          unfold intsN notin
          rw [List.length_map]
          have := List.length_filter_le (fun h => decide (h ∉ M)) (row.hs.take i)
          rw [List.length_take] at this
          omega
        have en := notin_take (M := M) he
        refine ⟨rfl, _, rfl, _, rfl, LN, _, rfl, .inl (SqL.of (s3 _ _ gM)), rfl, flat_intsN M, _, rfl, ?_⟩
        rw [inV_nat]
        by_cases c : e ∈ M
        · rw [decide_eq_true c]
          rw [if_pos c, List.append_nil] at en
          exact iteF ⟨kp, by rw [en]; exact gL⟩
        · rw [decide_eq_false c]
          rw [if_neg c] at en
          refine iteT ⟨_, rfl, _, gL, ll, kp.put (by simp), ?_⟩
          rw [upd_same, en, intsN_app]
          rfl
      rintro H3 ⟨kp, gL⟩
      have s3 : Same H'' H3 := (kp.fresh nL).toSame
      have elh : (intsN row.hs).length = row.hs.length := by unfold intsN; rw [List.length_map]
      rw [elh, List.take_length] at gL
      refine ⟨_, rfl, _, rfl, ?_⟩
      have rdI : ready M row = true ↔ row.st = false ∧ ∀ h ∈ row.hs, h ∈ M := ready_iff
      cases est : row.st with
      | true =>
        rw [est] at fin
        exact iteF (iteF (fin _ _ _ s3 fun z => by rw [(rdI.mp z.1).1] at est; cases est))
      | false =>
        rw [est] at fin
        refine iteT ⟨_, rfl, _, rfl, LN, _, rfl, .inl (SqL.of (s3 _ _ gM)), rfl, flat_intsN M, _, rfl, ?_⟩
        rw [inV_nat]
        by_cases c : row.c ∈ M
        · rw [decide_eq_true c]
          exact iteF (iteF (fin _ _ _ s3 fun z => z.2 c))
        · rw [decide_eq_false c]
          refine iteT ⟨_, rfl, Nat.zero_le _, fun e0 ne0 => ?_⟩
          have s4 := Same.up (o := HO.lst []) ne0
          have gL4 := s4 _ _ gL
          have gE : upd H3 e0 (HO.lst []) e0 = some (.lst []) := upd_same
          generalize upd H3 e0 (HO.lst []) = H4 at s4 gL4 gE ⊢
          have s34 := Same.trans s3 s4
          refine ⟨.list (intD (notin M row.hs)), .list [], .lst (SqL.of gL4) (ints_dp _), .lst (SqL.of gE) .nil, shaped_ints _, by decide +kernel, _, rfl, ?_⟩
          rw [eqv_nil]
          cases ee : (notin M row.hs).isEmpty with
          | false =>
            refine iteF (fin _ _ _ s34 fun z => ?_)
            rw [notin_nil.mpr (rdI.mp z.1).2] at ee
            cases ee
          | true =>
            have rd := rdI.mpr ⟨est, notin_nil.mp ee⟩
            have gM4 := s34 _ _ gM
            have cd5 := cdM.push hrm rd c
            have el : intsN M ++ [V.int (row.c : Int)] = intsN (M ++ [row.c]) := (intsN_app M [row.c]).symm
            refine iteT ⟨_, rfl, .inl ⟨rfl, _, SqL.of gM4⟩, _, rfl, LN, _, _, rfl, rfl, gM4, lt_line (by unfold intsN; rw [List.length_map]; omega), ?_⟩
            rw [el]
            have eA : M ++ [row.c] = N ++ (A ++ [row.c]) := by rw [eM, List.append_assoc]
            rw [eA] at cd5 ⊢
            exact ⟨G.Same.putN (Same.trans s'' s34) nN, A ++ [row.c], _, _, _, _, _, _, upd_same, cd5, (fun z => by simp at z), rfl⟩
    · rintro σ H'' ⟨s'', A, x3, x4, x5, x6, x7, x8, gM, cdM, hA, rfl⟩
      rw [ln, List.take_length] at hA
      have lM := cdM.len
      rw [List.length_append] at lM
      refine ⟨2 * (rows.length - (N ++ A).length) + (if (N.length : Int) < ((N ++ A).length : Int) then 1 else 0), ?_, ?_⟩
      · rw [List.length_append]
        split <;> omega
      · rw [eW]
        refine ⟨N ++ A, (N.length : Int), x3, x4, x5, x6, x7, x8, s'', gM, cdM, by rw [List.length_append]; omega, fun z => ?_, rfl, rfl⟩
        rw [List.length_append] at z
        have eA : A = [] := List.length_eq_zero_iff.mp (by omega)
        have h := hA eA
        rw [eA, List.append_nil]
        exact h
  · have h : ¬ mn < (N.length : Int) := fun z => h (decide_eq_true z)
    have clo := hc (by omega)
    refine ⟨_, rfl, LN, N.map fun (c : Nat) => (c : Int), rfl, SqL.of (by rw [intsN_cast]; exact gN), by rw [List.length_map]; omega, fun ns' p1 perm pw np => ?_⟩
    obtain ⟨zs, ez, pz, wz⟩ := sorted_nat perm pw
    rw [ez]
    exact q _ p1 zs (Same.trans sm (Same.up np)) (sm.free np) upd_same wz ((pz.nodup_iff).mpr cd.nd) fun c => (pz.mem_iff).trans ⟨fun h => cd.snd c h, fun h => cnt_in clo h⟩
end
end G

set_option Elab.async false
set_option linter.all false
set_option maxRecDepth 100000
set_option maxHeartbeats 4000000
/-! _law_named of the plain rules. -/
namespace G
open PySem PySem.Spec PyProof.Rows L2 StX
def RD.word : RD → Str
  | .never => "never"
  | .all => "all"
  | .counting => "counting"
  | .above _ => "above"
  | .places _ => "places"
/-- what is told of a rule -/
def ToldAt (H : Hp) (t : Addr) : RD → Prop
  | .never => H t = some (.tup [.str "never", .non])
  | .all => H t = some (.tup [.str "all", .non])
  | .counting => H t = some (.tup [.str "counting", .non])
  | .above m => H t = some (.tup [.str "above", .int m])
  | .places ps => ∃ q, H t = some (.tup [.str "places", .ref q]) ∧ H q = some (.tup (intsN ps))
theorem ToldAt.same {H H' : Hp} {t : Addr} : ∀ {d : RD}, ToldAt H t d → Same H H' → ToldAt H' t d
  | .never, h, s => s _ _ h
  | .all, h, s => s _ _ h
  | .counting, h, s => s _ _ h
  | .above _, h, s => s _ _ h
  | .places _, ⟨q, h, g⟩, s => ⟨q, s _ _ h, s _ _ g⟩
theorem ToldAt.at {H : Hp} {t : Addr} : ∀ {d : RD}, ToldAt H t d → ∃ x, H t = some (.tup [.str d.word, x])
  | .never, h => ⟨_, h⟩
  | .all, h => ⟨_, h⟩
  | .counting, h => ⟨_, h⟩
  | .above _, h => ⟨_, h⟩
  | .places _, ⟨q, h, g⟩ => ⟨_, h⟩
section
variable {P : Program} {w : World} {K : PySem.W.Frag} {mg : Str → Option Value} {base : Heap}
abbrev s__law_named : Stmt := top 19
abbrev n__law_named : List Str := ["_law_told", "_law_view_here", "_law_word", "_law_some", "_law_rows", "_law_one_here", "_law_other", "_law_cell", "_law_row"]
theorem sc__law_named : FnScope n__law_named ["_law_told", "_law_view_here"] (defScope s__law_named) := ⟨rfl, rfl, rfl, by decide +kernel, rfl, by decide +kernel, by decide +kernel⟩
def spNa : Sp := fun vs H Q _ => ∃ (t : Addr) (d : RD) (v : V) (m p : Int) (rows : List VR), vs = [.ref t, v] ∧ ToldAt H t d ∧ TD H v (viewD m p rows) ∧ GoodV rows ∧ ∀ H' L zs, Same H H' → H' L = some (.lst (intsN zs)) → NamedBy p rows d zs → Q (.ref L) H'
theorem ok_na {f fC : Addr} {fd dC : FuncData} (F : Fun K "_law_named" "_law_named" s__law_named f fd) (z_len : mg "len" = none) (DC : Df K mg "_law_counted" s__law_counted ["_law_rows"] fC dC) (GC : FnOk P w K mg base CX0 1 fC dC ["_law_rows"] spCo) : FnOk P w K mg base CX0 2 f fd ["_law_told", "_law_view_here"] spNa := by
  refine F.ok sc__law_named (fun vs H Q E ⟨_, _, _, _, _, _, ev, _⟩ => by rw [ev]; rfl) (fun cdv A outer s H vs Q E hr ⟨t, d, v, m, p, rows, ev, hT, td, gv, q⟩ => ?_)
  subst ev
  refine ⟨_, (pss_cons (ps_asg (pv 0) (pg_tup rfl (pgs_cons (pg_name (i := 2) sc__law_named.nd rfl (.inr rfl)) (pgs_cons (pg_name (i := 3) sc__law_named.nd rfl (.inl rfl)) pgs_nil))))
      (pss_cons (ps_set (i := 4) sc__law_named.nd rfl (.inl rfl) (pe_ix ix_tup (pv 1) pe_int (fun _ _ => rfl)))
      (pss_cons (ps_if (pt_cmpR op_in_seq (pv 2) (pe_tup (pa_cons pe_str (pa_cons pe_str (pa_cons pe_str pa_nil)))) (by rfl))
      pss_never
      pss_nil)
      (pss_cons (ps_if (pt_cmpR op_eq (pv 2) pe_str (nomark _))
      (pss_one (ps_ret (pe_call GC (hr.mono (by decide)) (by rfl) DC.m DC.F.kp DC.b .nil pass0 (pa_cons (pv 4) pa_nil))))
      pss_nil)
      (pss_cons (ps_if (PW.pt (pw_or (pt_cmpR op_eq (pv 2) pe_str (nomark _)) (pw_or1 (PW.pt (pw_and (pt_cmpR op_eq (pv 2) pe_str (nomark _)) (pw_and1 (pt_cmpR op_notIn_seq (pe_ix ix_tup (pv 1) pe_int (fun _ _ => rfl)) (pv 3) (by rfl))))))))
      (pss_one (ps_ret (pe_lst pa_nil)))
      pss_nil)
      (pss_cons (ps_if (PW.pt (pw_and (pt_cmpR op_eq (pv 2) pe_str (nomark _)) (pw_and1 (pt_cmpR op_le (pe_callB call_len_seq (by rfl) z_len (by decide +kernel) (pa_cons (pv 4) pa_nil)) (pv 3) (nomark _)))))
      (pss_one (ps_ret (pe_lst pa_nil)))
      pss_nil)
      (pss_one (ps_ret (pe_lc (tt := tNot (tB (tOp (rIxT K) (tVar 8) (tC (.int 2))))) (te := tOp (rIxT K) (tVar 8) (tC (.int 0))) (own := [("_law_row", 8)]) (by rfl) sc__law_named.nd (pi_tup (pv 4)) (blkOk_by (N := n__law_named) (sc := defScope s__law_named) (by decide +kernel)) (fun _ _ _ _ _ => (pg_name (i := 8) sc__law_named.nd rfl (.inl rfl))) (fun _ _ _ _ _ => pts_one (pt_not (pt_val (pe_ix ix_tup (pv 8) pe_int (fun _ _ => rfl))))) (fun _ _ _ _ _ => (pe_ix ix_tup (pv 8) pe_int (fun _ _ => rfl)))))))))))), ?_⟩
  obtain ⟨r, rr, rvs, rfl, gr, grr, tds⟩ := view_at td
  have ln : rvs.length = rows.length := by rw [tds.len, List.length_map]
  have l8 := gv.len
  obtain ⟨x, gt⟩ := hT.at
  refine ⟨_, rfl, t, _, rfl, SqT.of gt, rfl, _, _, rfl, _, _, rfl, rfl, ?_⟩
  refine ⟨_, rfl, r, _, _, _, rfl, rfl, SqT.of gr, atI_nat (j := 2) rfl, ?_⟩
  refine ⟨_, rfl, line1000 (Nat.le_of_ble_eq_true rfl), fun p3 n3 => ?_⟩
  have s3 := Same.up (o := HO.tup [.str "and", .str "or", .str "less"]) n3
  have g3 : upd H p3 (HO.tup [.str "and", .str "or", .str "less"]) p3 = some (HO.tup [.str "and", .str "or", .str "less"]) := upd_same
  generalize upd H p3 (HO.tup [.str "and", .str "or", .str "less"]) = H1 at s3 g3 ⊢
  have iv : inV (.str d.word) [.str "and", .str "or", .str "less"] = false := by
    cases d
    · decide +kernel
    · decide +kernel
    · decide +kernel
    · show inV (.str (Str.ofString "above")) _ = false
      decide +kernel
    · show inV (.str (Str.ofString "places")) _ = false
      decide +kernel
  refine ⟨p3, _, rfl, .inr (SqT.of g3), rfl, rfl, _, rfl, ?_⟩
  rw [iv]
  refine iteF ?_
  have gr1 := s3 _ _ gr
  have grr1 := s3 _ _ grr
  have tds1 := tds.same s3
  have gt1 := s3 _ _ gt
  have td1 : TD H1 (.ref r) (viewD m p rows) := TD.same td s3
  have hT1 := hT.same s3
  have q1 : ∀ H' L zs, Same H1 H' → H' L = some (.lst (intsN zs)) → NamedBy p rows d zs → Q (.ref L) H' := fun H' L zs s' => q H' L zs (Same.trans s3 s')
  clear q s3 g3 n3 td gr grr tds hT gt iv
  -- the list of the unreached
  have unr : ∀ x1 x2 x3 : Option V, (∀ zs, zs = unre rows → NamedBy p rows d zs) → tRet (tLc (iTup K (tVar 4)) (gName 8) (tNot (tB (tOp (rIxT K) (tVar 8) (tC (.int 2))))) (tOp (rIxT K) (tVar 8) (tC (.int 0))) [8]) { nx := fun _ H' => Q .non H', rt := Q } [some (.ref t), some (.ref r), some (.str d.word), some x, some (.ref rr), x1, x2, x3, none] H1 := fun x1 x2 x3 nb => by
    refine ⟨_, rfl, rr, rfl, ⟨_, SqT.of grr1⟩, fun N nN => ?_⟩
    refine lc_tup (xs := rvs) (fun i H' => Kp [N] H1 H' ∧ H' N = some (.lst (intsN (unre (rows.take i))))) ⟨(Kp.refl _ _).new nN, upd_same⟩ (fun i H' _ h => SqT.of (h.1 _ _ (by simp; intro z; rw [← z, grr1] at nN; cases nN) grr1)) ?_ ?_
    · rintro i y H' hy ⟨kp, gN⟩
      have s1 : Same H1 H' := (kp.fresh nN).toSame
      obtain ⟨row, t', q4, hrow, rfl, gt', gq⟩ := row_of (tds1.same s1) hy
      have hi := (List.getElem?_eq_some_iff.mp hrow).1
      have lu := unre_len (rows.take i)
      rw [List.length_take] at lu
      have e := unre_take hrow
      refine ⟨rfl, _, rfl, t', _, _, _, rfl, rfl, SqT.of gt', atI_nat (j := 2) rfl, _, rfl, ?_⟩
      cases er : row.re with
      | false =>
        rw [er] at e
        refine iteT ⟨_, rfl, t', _, _, _, rfl, rfl, SqT.of gt', atI_nat (j := 0) rfl, _, gN, lt_line (by unfold intsN; rw [List.length_map]; omega), kp.put (by simp), ?_⟩
        rw [upd_same, e, intsN_app]
        rfl
      | true =>
        rw [er] at e
        refine iteF ⟨kp, ?_⟩
        rw [e, gN]
        simp
    · rintro H' ⟨kp, gN⟩
      have s1 : Same H1 H' := (kp.fresh nN).toSame
      rw [ln, List.take_length] at gN
      exact q1 _ N _ s1 gN (nb _ rfl)
  have nilR : NamedBy p rows d [] → tRet (tLst tNil) { nx := fun _ H' => Q .non H', rt := Q } [some (.ref t), some (.ref r), some (.str d.word), some x, some (.ref rr), none, none, none, none] H1 := fun nb => ⟨Nat.zero_le _, fun N nN => q1 _ N [] (Same.up nN) upd_same nb⟩
  obtain ⟨wd, ewd⟩ : ∃ wd, wd = d.word := ⟨_, rfl⟩
  rw [← ewd] at unr nilR ⊢
  cases d with
  | never =>
    have ewd : wd = Str.ofString "never" := ewd
    subst ewd
    refine ⟨_, rfl, rfl, _, rfl, ?_⟩
    rw [show decide (V.str (Str.ofString "never") = V.str (Str.ofString "counting")) = false by decide +kernel]
    refine iteF ?_
    refine ⟨_, rfl, rfl, _, rfl, ?_⟩
    rw [show decide (V.str (Str.ofString "never") = V.str (Str.ofString "never")) = true by decide +kernel]
    exact iteT (iteT (nilR rfl))
  | all =>
    have ewd : wd = Str.ofString "all" := ewd
    subst ewd
    refine ⟨_, rfl, rfl, _, rfl, ?_⟩
    rw [show decide (V.str (Str.ofString "all") = V.str (Str.ofString "counting")) = false by decide +kernel]
    refine iteF ?_
    refine ⟨_, rfl, rfl, _, rfl, ?_⟩
    rw [show decide (V.str (Str.ofString "all") = V.str (Str.ofString "never")) = false by decide +kernel]
    refine iteF ?_
    refine ⟨_, rfl, rfl, _, rfl, ?_⟩
    rw [show decide (V.str (Str.ofString "all") = V.str (Str.ofString "places")) = false by decide +kernel]
    refine iteF (iteF ?_)
    refine ⟨_, rfl, rfl, _, rfl, ?_⟩
    rw [show decide (V.str (Str.ofString "all") = V.str (Str.ofString "above")) = false by decide +kernel]
    exact iteF (iteF (unr _ _ _ fun zs e => e))
  | counting =>
    have ewd : wd = Str.ofString "counting" := ewd
    subst ewd
    refine ⟨_, rfl, rfl, _, rfl, ?_⟩
    rw [show decide (V.str (Str.ofString "counting") = V.str (Str.ofString "counting")) = true by decide +kernel]
    refine iteT ?_
    exact ⟨_, rfl, rr, rvs, rows, rfl, grr1, tds1, gv, fun H' L zs s' nL gL h1 h2 h3 => q1 H' L zs s' gL ⟨h1, h2, h3⟩⟩
  | above mo =>
    have ewd : wd = Str.ofString "above" := ewd
    subst ewd
    have gx : x = .int mo := by
      have z : H1 t = some (.tup [.str "above", .int mo]) := hT1
      rw [gt1] at z
      cases z
      rfl
    subst gx
    refine ⟨_, rfl, rfl, _, rfl, ?_⟩
    rw [show decide (V.str (Str.ofString "above") = V.str (Str.ofString "counting")) = false by decide +kernel]
    refine iteF ?_
    refine ⟨_, rfl, rfl, _, rfl, ?_⟩
    rw [show decide (V.str (Str.ofString "above") = V.str (Str.ofString "never")) = false by decide +kernel]
    refine iteF ?_
    refine ⟨_, rfl, rfl, _, rfl, ?_⟩
    rw [show decide (V.str (Str.ofString "above") = V.str (Str.ofString "places")) = false by decide +kernel]
    refine iteF (iteF ?_)
    refine ⟨_, rfl, rfl, _, rfl, ?_⟩
    rw [show decide (V.str (Str.ofString "above") = V.str (Str.ofString "above")) = true by decide +kernel]
    refine iteT ⟨_, rfl, rr, _, rfl, .inr (SqT.of grr1), _, rfl, _, _, rfl, rfl, _, rfl, ite2 (fun h => ?_) (fun h => ?_)⟩
    · have h : (rvs.length : Int) ≤ mo := of_decide_eq_true h
      exact nilR (by show _ = if _ then _ else _; rw [if_neg (by omega)])
    · have h : ¬ (rvs.length : Int) ≤ mo := fun z => h (decide_eq_true z)
      exact unr _ _ _ fun zs e => by show _ = if _ then _ else _; rw [if_pos (by omega), e]
  | places ps =>
    have ewd : wd = Str.ofString "places" := ewd
    subst ewd
    obtain ⟨q5, z, g5⟩ := hT1
    rw [gt1] at z
    cases z
    refine ⟨_, rfl, rfl, _, rfl, ?_⟩
    rw [show decide (V.str (Str.ofString "places") = V.str (Str.ofString "counting")) = false by decide +kernel]
    refine iteF ?_
    refine ⟨_, rfl, rfl, _, rfl, ?_⟩
    rw [show decide (V.str (Str.ofString "places") = V.str (Str.ofString "never")) = false by decide +kernel]
    refine iteF ?_
    refine ⟨_, rfl, rfl, _, rfl, ?_⟩
    rw [show decide (V.str (Str.ofString "places") = V.str (Str.ofString "places")) = true by decide +kernel]
    refine iteT ⟨_, rfl, r, _, _, _, rfl, rfl, SqT.of gr1, atI_nat (j := 1) rfl, _, rfl, q5, _, rfl, .inr (SqT.of g5), rfl, flat_intsN ps, _, rfl, ?_⟩
    rw [inV_intsN]
    by_cases c : p ∈ ps.map (fun (c : Nat) => (c : Int))
    · rw [decide_eq_true c]
      refine iteF ?_
      refine ⟨_, rfl, rfl, _, rfl, ?_⟩
      rw [show decide (V.str (Str.ofString "places") = V.str (Str.ofString "above")) = false by decide +kernel]
      exact iteF (iteF (unr _ _ _ fun zs e => by show _ = if _ then _ else _; rw [if_pos c, e]))
    · rw [decide_eq_false c]
      exact iteT (nilR (by show _ = if _ then _ else _; rw [if_neg c]))
end
end G

set_option Elab.async false
set_option linter.all false
set_option maxRecDepth 100000
set_option maxHeartbeats 4000000
/-! set(xs) of a list of numbers. -/
noncomputable section
namespace G
open PySem PySem.Spec PyProof.Rows L2
abbrev set0 (w : World) : Obj := { cls := .type "set", dict := none, data := .set #[] 0 (.fresh 0 0 (!w.params.followText "set-order")) }
section
variable {P : Program} {w : World} {A : Around} {E : Value → Shared → Prop} {s : Shared}
theorem ints_at2 : ∀ {us : List Value} {ns : List Int}, IntsAre us ns → ∀ (i : Nat) (v : Value), us[i]? = some v → ∃ k t, ns[i]? = some k ∧ v = .int k t
  | _, _, .nil, i, v, h => by simp at h
  | _, _, .cons _ _ r, 0, v, h => by cases h; exact ⟨_, _, rfl, rfl⟩
  | _, _, .cons _ _ r, i + 1, v, h => ints_at2 r i v h
def SetMadeI (w : World) (s : Shared) (xs : List Int) (s2 : Shared) : Prop :=
  ∃ h' tk c, s2 = { s with heap := h', toks := tk } ∧ SetR w h' s.heap.objs.size (fun j => decide (j ∈ xs)) c ∧ c ≤ xs.length ∧ ∀ b o, s.heap.get? b = some o → h'.get? b = some o
theorem set_fillI {B : Around} {l : Addr} {items : Array Value} {xs : List Int} {R : Result → Shared → Prop} (hh : B.handled = none) (hl : s.heap.IsList l items) (hi : IntsAre items.toList xs) (few : xs.length + 1 < scanBound)
    (fin : ∀ s2, SetMadeI w s xs s2 → R (.ok (.ret .none)) s2) :
    codeAny (model P w) B (.builtin "set.update.loop" ⟨[.ref s.heap.objs.size, .ref (s.heap.push (set0 w)).objs.size], []⟩) R { s with heap := (s.heap.push (set0 w)).push { cls := .type "list_iterator", data := .fields #[.ref l, .int 0 0] } } := by
  have sz : items.size = xs.length := by rw [← IntsAre.length hi, Array.length_toList]
  have z1 : (s.heap.push (set0 w)).objs.size = s.heap.objs.size + 1 := Heap.size_push ..
  have hl2 := hl
  obtain ⟨o, ho, hc, nl, hd⟩ := hl
  have ll : l < s.heap.objs.size := Heap.lt_size ho
  have nf : s.heap.objs.size ∉ [(s.heap.push (set0 w)).objs.size, l] := fun z => by
    rcases List.mem_cons.mp z with z | z
    · exact Nat.ne_of_lt (Nat.lt_succ_self _) (z.trans z1)
    · exact Nat.ne_of_gt ll (List.mem_singleton.mp z)
  refine set_update_ints ((Walks.list (by simpa using hh) _ l (by rw [z1]; exact Nat.ne_of_lt (Nat.lt_succ_of_lt ll)) items).toS) _ nf xs sz few (fun i v e => ?_) items.size 0 _ (by omega) (Nat.zero_le _) ⟨⟨_, Heap.get?_push_size _ rfl, rfl, rfl⟩, (hl2.push _).push _⟩ ⟨0, Nat.le_refl _, (setR_new_at (ns := xs) (Heap.get?_push_of_some _ (Heap.get?_push_size _ rfl)))⟩ fun s' c mv hc T => ?_
  · have e' : items.toList[i]? = some v := by rw [Array.getElem?_toList]; exact e
    exact ints_at2 hi i v e'
  · obtain ⟨h', g, d, tk, os⟩ := s'
    have eg : g = s.gens := mv.gens
    have ed : d = s.drawn := mv.drawn
    have eo : os = s.os := mv.os
    subst eg ed eo
    refine fin _ ⟨h', tk, c, rfl, T, by omega, fun b u e => mv.heap b u (fun z => ?_) (Heap.get?_push_of_some _ (Heap.get?_push_of_some _ e))⟩
    have lb := Heap.lt_size e
    rcases List.mem_cons.mp z with z | z
    · exact Nat.ne_of_lt lb z
    · exact Nat.ne_of_lt (Nat.lt_succ_of_lt lb) ((List.mem_singleton.mp z).trans z1)
set_option maxHeartbeats 3200000 in
theorem call_setI {l : Addr} {items : Array Value} {xs : List Int} {Q : Value → Shared → Prop} (hh : A.handled = none) (hl : s.heap.IsList l items) (hi : IntsAre items.toList xs) (few : xs.length + 1 < scanBound)
    (fin : ∀ s2, SetMadeI w s xs s2 → Q (.ref s.heap.objs.size) s2) : wpAny (model P w) A (call (.type "set") [.ref l]) Q E s := by
  obtain ⟨c0, c1, mro⟩ := F.called_set.mro; have made := F.called_set.made; have sub := F.called_set.sub
  refine wpAny_call (codeAny_of_tree (show wpAny _ _ (callAny (.type "set") _) _ _ _ from wpAny_pure ⟨Code.quiet_builtin _ (by decide +kernel), codeAny_builtin F.entry_type_call ?_⟩))
  rw [Around.under_plain (weight_type_call_type "set" [.ref l] []) rfl]
  have nt := F.called_set.notType; have cc := F.called_set.canCreate; have tc := F.typeCall_set_1 (.ref l)
  repeat (any_goals (first | assumption | wp_step))
  refine codeAny_mono (code_set_led1 (.ref l) (E := E) (Q₁ := fun v s1 => v = .ref s.heap.objs.size ∧ s1 = { s with heap := s.heap.push (set0 w) }) ⟨rfl, rfl⟩) fun r s1 hr => ?_
  rcases r with e | fl
  · exact hr
  cases fl with
  | ret v =>
    obtain ⟨rfl, rfl⟩ := hr
    have e0 : (s.heap.push (set0 w)).get? s.heap.objs.size = some (set0 w) := Heap.get?_push_size _ rfl
    have isS : Shared.TypeIs { s with heap := s.heap.push (set0 w) } (.ref s.heap.objs.size) "set" := ⟨_, e0, rfl⟩
    have il := F.called_set.init.lookup; have ib := F.called_set.init.bind (.ref s.heap.objs.size)
    repeat (any_goals (first | assumption | wp_step))
    refine codeAny_mono (codeAny_call_builtin (R := wants (fun r s2 => r = .none ∧ SetMadeI w s xs s2) E) F.called_set.init.plain F.entry_set_init (check_set_init_1 isS ?_)) fun r s2 hr => ?_
    · obtain ⟨⟨oc, od, odt, osl⟩, ho, hc, nl, hd⟩ := hl
      simp only at hc hd
      subst hc hd
      have ho1 : (s.heap.push (set0 w)).get? l = some { cls := .type "list", dict := od, data := .seq items nl, slots := osl } := Heap.get?_push_of_some _ ho
      have n1 := F.sub_list_set; have n2 := F.sub_list_frozenset
      have n3 : (Value.type "list" == Value.type "dict") = false := by decide
      have hl1 : (s.heap.push (set0 w)).IsList l items := ⟨_, ho1, rfl, nl, rfl⟩
      unfold Builtin.«set.__init__» noKeywords Builtin.Frozenset.updateFrom
      generalize hPI : pyIter = PI; wp_walk; subst hPI
      refine wpAny_pyIter_list hl1 (wpAny_bind (wpAny_runValue ?_))
      refine set_fillI (by simp [hh]) ⟨_, ho, rfl, nl, rfl⟩ hi few fun s2 m => ?_
      change wpAny _ _ _ _ _ _; refine wpAny_pure ?_
      change wpAny _ _ (ret Value.none) _ _ _; exact wpAny_pure ⟨rfl, m⟩
    · rcases r with e | fl
      · exact hr
      cases fl with
      | ret v =>
        obtain ⟨rfl, m⟩ := hr
        repeat (any_goals (first | assumption | wp_step))
        exact fin _ m
      | _ => exact hr.elim
  | _ => exact hr.elim
end
section
variable {X : Cx}
/-- set(xs), xs a list of numbers -/
def rSetI (K : PySem.W.Frag) (w : World) : List V → Hp → VK → Prop := fun vs H Q => ∃ (l : Addr) (xs : List Int), vs = [V.ref l] ∧ SqL K H l (xs.map V.int) ∧ xs.length < 1000 ∧
  ∀ (a : Addr) (c : Nat), H a = none → c ≤ xs.length → Q (.ref a) (upd H a (SetO w a (fun j => decide (j ∈ xs)) c))
theorem cr_setI (hc : X.calm = true) : CallR X (.type "set") (rSetI X.K X.w) := by
  intro pins s σ H xs vs Q I r h
  obtain ⟨l, ns, rfl, hl, few, q⟩ := h
  rw [Vals.ref1 r]
  obtain ⟨its, rv, pl, _⟩ := I.list hl
  refine call_setI (P := X.prog) (w := X.w) (xs := ns) (I.ok.hd hc) pl.isList (by simpa using rv.ints) (by unfold scanBound; omega) fun s2 ⟨h', tk, c, e, T, lc, k⟩ => ?_
  subst e
  exact ⟨.ref s.heap.objs.size, _, I.laid (t' := tk) k (Nat.le_refl _) (setO_new T), rfl, q _ c (I.hok.fresh (Nat.le_refl _)) lc⟩
end
end G
end

set_option Elab.async false
set_option linter.all false
set_option maxRecDepth 100000
set_option maxHeartbeats 8000000
/-! _law_view, first part: what it holds. -/
namespace G
open PySem PySem.Spec PyProof.Rows L2 StX
theorem one_nats {K : PySem.W.Frag} {D L A : Addr} {H : Hp} {xs : List V} {i : Nat} (d : Deck H D L i) (hm : i < 10 ^ 12) (gA : H A = some (.lst xs)) (na : A ∉ [D, L]) (l0 : 0 < xs.length) (l1 : xs.length ≤ 1000) {Q' : VK}
    (h : ∀ H' y, Kp [D, L] H H' → Deck H' D L (i + 1) → y ∈ xs → Q' y H') : spOne K [.ref D, .ref A] H Q' E0 :=
  ⟨D, L, i, _, rfl, d, hm, .inl ⟨A, _, rfl, .inl ⟨SqL.of gA, na⟩, l0, l1, fun H' y k' d' hy => h H' y k' d' hy⟩⟩
/-- a list of drawn numbers grows -/
def GrowN (p : Nat → Prop) (D L a : Addr) (H1 : Hp) (m : Nat) (i : Nat) (H' : Hp) : Prop := ∃ ys : List Nat, Ch [a, D, L] H1 H' ∧ Deck H' D L (m + i) ∧ H' a = some (.lst (intsN ys)) ∧ ys.length = i ∧ ∀ y ∈ ys, p y
theorem GrowN.start {p : Nat → Prop} {D L a : Addr} {H1 : Hp} {m : Nat} (d : Deck H1 D L m) (na : H1 a = none) : GrowN p D L a H1 m 0 (upd H1 a (.lst [])) :=
  ⟨[], (Ch.refl _ _).new na, (d.kp ((Kp.refl [] H1).new na) (fun z => nomatch z) (fun z => nomatch z)).mono (by omega), upd_same, rfl, fun _ z => nomatch z⟩
theorem GrowN.step {p : Nat → Prop} {D L a : Addr} {H1 H' H4 : Hp} {m i : Nat} {y : Nat} (g : GrowN p D L a H1 m i H') (hi : i < 1000) (kp : Ch [D, L] H' H4) (d : Deck H4 D L (m + i + 1)) (ne : a ∉ [D, L]) (hy : p y) :
    ∃ acc, H4 a = some (.lst acc) ∧ acc.length < sizeLine ∧ GrowN p D L a H1 m (i + 1) (upd H4 a (.lst (acc ++ [.int (y : Int)]))) := by
  obtain ⟨ys, k0, d0, ha, hl, hb⟩ := g
  have ne1 : a ≠ D := fun z => ne (by simp [z])
  have ne2 : a ≠ L := fun z => ne (by simp [z])
  have ha4 := kp.kp _ _ ne ha
  refine ⟨_, ha4, lt_line (by unfold intsN; rw [List.length_map, hl]; omega), ys ++ [y], (k0.trans (kp.mono fun b hb => List.mem_cons_of_mem _ hb)).put (by simp) ha4 (fun xs z => by cases z), ?_, ?_, by rw [List.length_append, hl]; rfl, fun z hz => ?_⟩
  · refine Deck.mono (n := m + i + 1) ?_ (by omega)
    exact d.kp (S := [a]) ((Kp.refl _ _).put (by simp)) (by simpa using ne1.symm) (by simpa using ne2.symm)
  · rw [upd_same, intsN_app]
    rfl
  · rcases List.mem_append.mp hz with h | h
    · exact hb z h
    · rw [List.mem_singleton.mp h]; exact hy
/-- what stands while a view is drawn, over the heap H at the start: cells, held, stands -/
structure VH (H H' : Hp) (D L C DH DS : Addr) (n : Nat) (cs : List Nat) (hs : List HolE) (sk : List (Key × V)) : Prop where
  kp : Kp [D, L] H H'
  dk : Deck H' D L n
  c : H' C = some (.lst (intsN cs))
  h : HolAt H H' DH hs
  s : H' DS = some (.dK sk)
  nc : H C = none
  nh : H DH = none
  ns : H DS = none
  dl : C ∉ [D, L] ∧ DH ∉ [D, L] ∧ DS ∉ [D, L]
  hd : DH ≠ DS
  hl : ∀ x ∈ hs, x.2.1 ≠ C ∧ x.2.1 ∉ [D, L]
section
variable {H H' H2 : Hp} {D L C DH DS : Addr} {n n' : Nat} {cs : List Nat} {hs : List HolE} {sk : List (Key × V)}
theorem HolAt.kp {H0 : Hp} (h : HolAt H0 H' DH hs) (k : Kp [D, L] H' H2) (hd : DH ∉ [D, L]) (hl : ∀ x ∈ hs, x.2.1 ∉ [D, L]) : HolAt H0 H2 DH hs :=
  ⟨k _ _ hd h.d, fun x hx => ⟨k _ _ (hl x hx) (h.l x hx).1, (h.l x hx).2⟩, h.nd, h.nk⟩
theorem VH.deck (v : VH H H' D L C DH DS n cs hs sk) (k : Kp [D, L] H' H2) (d : Deck H2 D L n') : VH H H2 D L C DH DS n' cs hs sk :=
  { v with kp := v.kp.trans k, dk := d, c := k _ _ v.dl.1 v.c, h := v.h.kp k v.dl.2.1 (fun x hx => (v.hl x hx).2), s := k _ _ v.dl.2.2 v.s }
theorem Deck.sm (d : Deck H' D L n) (s : Same H' H2) : Deck H2 D L n := d.kp (Kp.same (S := []) s) (fun z => nomatch z) (fun z => nomatch z)
theorem kp_put {p : Addr} {o : HO} (k : Kp [D, L] H H') (h : H p = none) : Kp [D, L] H (upd H' p o) :=
  Kp.fresh (p := p) (((k.mono (T := [p, D, L]) fun b hb => List.mem_cons_of_mem _ hb)).put (by simp)) h
theorem dk_put {p : Addr} {o : HO} (d : Deck H' D L n) (h : p ∉ [D, L]) : Deck (upd H' p o) D L n :=
  d.kp (S := [p]) ((Kp.refl _ _).put (by simp)) (fun z => h (by rw [List.mem_singleton.mp z]; simp)) (fun z => h (by rw [List.mem_singleton.mp z]; simp))
theorem VH.setC (v : VH H H' D L C DH DS n cs hs sk) (cs' : List Nat) : VH H (upd H' C (.lst (intsN cs'))) D L C DH DS n cs' hs sk :=
  { v with
    kp := kp_put v.kp v.nc
    dk := dk_put v.dk v.dl.1
    c := upd_same
    h := v.h.put (ne_of v.h.d v.c (by intro z; cases z)) fun x hx => (v.hl x hx).1
    s := by rw [upd_ne (ne_of v.s v.c (by intro z; cases z))]; exact v.s }
theorem VH.setS (v : VH H H' D L C DH DS n cs hs sk) (sk' : List (Key × V)) : VH H (upd H' DS (.dK sk')) D L C DH DS n cs hs sk' :=
  { v with
    kp := kp_put v.kp v.ns
    dk := dk_put v.dk v.dl.2.2
    c := by rw [upd_ne (ne_of v.c v.s (by intro z; cases z))]; exact v.c
    h := v.h.put v.hd fun x hx => ne_of (v.h.l x hx).1 v.s (by intro z; cases z)
    s := upd_same }
theorem VH.put (v : VH H H' D L C DH DS n cs hs sk) {p : Addr} {o : HO} (hp : H p = none) (np : p ∉ [D, L]) (h1 : C ≠ p) (h2 : DH ≠ p) (h3 : DS ≠ p) (h4 : ∀ x ∈ hs, x.2.1 ≠ p) : VH H (upd H' p o) D L C DH DS n cs hs sk :=
  { v with
    kp := kp_put v.kp hp
    dk := dk_put v.dk np
    c := by rw [upd_ne h1]; exact v.c
    h := v.h.put h2 h4
    s := by rw [upd_ne h3]; exact v.s }
theorem VH.new (v : VH H H' D L C DH DS n cs hs sk) {p : Addr} (np : H' p = none) : H p = none ∧ p ∉ [D, L] ∧ C ≠ p ∧ DH ≠ p ∧ DS ≠ p ∧ ∀ x ∈ hs, x.2.1 ≠ p := by
  have nd : p ∉ [D, L] := by simpa using v.dk.neD np
  exact ⟨v.kp.none_of np nd, nd, ne_of_none v.c np, ne_of_none v.h.d np, ne_of_none v.s np, fun x hx => ne_of_none (v.h.l x hx).1 np⟩
/-- a new key of the dict of lists -/
theorem VH.setH (v : VH H H' D L C DH DS n cs hs sk) {q : Addr} {c : Nat} {l : List Nat} (gq : H' q = some (.lst (intsN l))) (nq : H q = none) (qd : q ∉ [D, L]) (qC : q ≠ C) (qx : ∀ x ∈ hs, x.2.1 ≠ q) (hc : c ∉ hs.map fun x => x.1) :
    VH H (upd H' DH (.dK (putK (holK hs) (kN c) (.ref q)))) D L C DH DS n cs (hs ++ [(c, q, l)]) sk := by
  have hv : valV (holK hs) (kN c) = none := by
    rw [holK_val, Option.map_eq_none_iff, List.find?_eq_none]
    intro x hx z
    exact hc (List.mem_map.mpr ⟨x, hx, of_decide_eq_true z⟩)
  have ql : q ≠ DH := ne_of gq v.h.d (by intro z; cases z)
  have xl : ∀ x ∈ hs, x.2.1 ≠ DH := fun x hx => ne_of (v.h.l x hx).1 v.h.d (by intro z; cases z)
  exact { v with
    kp := kp_put v.kp v.nh
    dk := dk_put v.dk v.dl.2.1
    c := by rw [upd_ne (ne_of v.c v.h.d (by intro z; cases z))]; exact v.c
    h := {
      d := by rw [upd_same, putK_new _ hv]; unfold holK; rw [List.map_append]; rfl
      l := fun x hx => by
        rcases List.mem_append.mp hx with hx | hx
        · rw [upd_ne (xl x hx)]; exact v.h.l x hx
        · rw [List.mem_singleton.mp hx]; exact ⟨by rw [upd_ne ql]; exact gq, nq⟩
      nd := by
        rw [List.map_append]
        refine List.nodup_append.mpr ⟨v.h.nd, by simp, fun x hx y hy z => ?_⟩
        obtain ⟨u, hu, rfl⟩ := List.mem_map.mp hx
        have : y = q := by simpa using hy
        exact qx u hu (z.trans this)
      nk := by
        rw [List.map_append]
        refine List.nodup_append.mpr ⟨v.h.nk, by simp, fun x hx y hy z => ?_⟩
        have : y = c := by simpa using hy
        rw [this] at z
        exact hc (by rw [← z]; exact hx) }
    s := by rw [upd_ne (Ne.symm v.hd)]; exact v.s
    hl := fun x hx => by
      rcases List.mem_append.mp hx with hx | hx
      · exact v.hl x hx
      · rw [List.mem_singleton.mp hx]; exact ⟨qC, qd⟩ }
theorem VH.same (v : VH H H' D L C DH DS n cs hs sk) (s : Same H' H2) : VH H H2 D L C DH DS n cs hs sk := v.deck (Kp.same s) (v.dk.sm s)
end
theorem nilP {σ : L2.St} {H : Hp} {k : List V → Hp → Prop} (h : k [] H) : tNil σ H k := h
/-- the dict of who stands -/
def stK (st : Nat → Bool) (l : List Nat) : List (Key × V) := l.map fun c => (kN c, .bl (st c))
theorem stK_none {st : Nat → Bool} {c : Nat} : ∀ {l : List Nat}, c ∉ l → valV (stK st l) (kN c) = none
  | [], _ => rfl
  | r :: rs, h => by
    have h1 : ¬ kN r = kN c := fun z => h (by rw [kN_inj _ _ z]; exact List.mem_cons_self ..)
    show valV ((kN r, _) :: stK st rs) (kN c) = none
    rw [valV_neg h1]
    exact stK_none fun z => h (List.mem_cons_of_mem _ z)
theorem stK_some {st : Nat → Bool} {c : Nat} : ∀ {l : List Nat}, c ∈ l → valV (stK st l) (kN c) = some (.bl (st c))
  | [], h => nomatch h
  | r :: rs, h => by
    show valV ((kN r, V.bl (st r)) :: stK st rs) (kN c) = _
    by_cases e : r = c
    · subst e
      rw [valV_pos rfl]
    · rw [valV_neg (fun z => e (kN_inj _ _ z))]
      exact stK_some ((List.mem_cons.mp h).resolve_left fun z => e z.symm)
theorem stK_step {st : Nat → Bool} {b : Bool} {l : List Nat} {j c : Nat} (nd : l.Nodup) (h : l[j]? = some c) : putK (stK st (l.take j)) (kN c) (.bl b) = stK (fun x => if x = c then b else st x) (l.take (j + 1)) := by
  obtain ⟨hn, _⟩ := take_mem nd h
  rw [putK_new _ (stK_none hn), List.take_add_one, h]
  unfold stK
  rw [List.map_append]
  congr 1
  · refine List.map_congr_left fun x hx => ?_
    have : x ≠ c := fun z => hn (by rw [← z]; exact hx)
    simp [this]
  · simp
theorem strict_nat {l : List Nat} {ns : List Int} (pw : ns.Pairwise (· < ·)) (hm : ∀ k : Int, k ∈ ns → k ∈ l.map fun (c : Nat) => (c : Int)) : ∃ ms : List Nat, ns.map V.int = intsN ms ∧ ms.Nodup ∧ ∀ m ∈ ms, m ∈ l := by
  have pos : ∀ x ∈ ns, ((x.toNat : Nat) : Int) = x := fun x hx => by
    obtain ⟨c, _, rfl⟩ := List.mem_map.mp (hm x hx)
    rfl
  refine ⟨ns.map Int.toNat, ?_, ?_, fun m hmm => ?_⟩
  · unfold intsN
    rw [List.map_map]
    refine List.map_congr_left fun x hx => ?_
    show V.int x = V.int ((x.toNat : Nat) : Int)
    rw [pos x hx]
  · refine List.pairwise_map.mpr (pw.imp_of_mem fun {a b} ha hb h => ?_)
    have := pos a ha
    have := pos b hb
    omega
  · obtain ⟨x, hx, rfl⟩ := List.mem_map.mp hmm
    obtain ⟨c, hc, e⟩ := List.mem_map.mp (hm x hx)
    rw [← e]
    exact hc
theorem filtN_take {l : List Nat} {p : Nat → Bool} {i c : Nat} (h : l[i]? = some c) : (l.take (i + 1)).filter p = (l.take i).filter p ++ if p c then [c] else [] := by
  rw [List.take_add_one, h, List.filter_append]
  congr 1
  cases e : p c <;> simp [e]
theorem hol_key {hs : List HolE} {cs : List Nat} (hk : hs.map (fun x => x.1) = cs) {c : Nat} (hc : c ∈ cs) : ∃ x ∈ hs, valV (holK hs) (kN c) = some (.ref x.2.1) ∧ lookH hs c = x.2.2 := by
  cases e : hs.find? (fun x => decide (x.1 = c)) with
  | none =>
    rw [← hk] at hc
    obtain ⟨x, hx, rfl⟩ := List.mem_map.mp hc
    exact absurd (decide_eq_true rfl) (List.find?_eq_none.mp e x hx)
  | some x => exact ⟨x, List.mem_of_find?_eq_some e, by rw [holK_val, e]; rfl, by unfold lookH; rw [e]; rfl⟩
end G

set_option Elab.async false
set_option linter.all false
set_option maxRecDepth 100000
set_option maxHeartbeats 8000000
/-! _law_view. -/
namespace G
open PySem PySem.Spec PyProof.Rows L2 StX
section
variable {P : Program} {w : World} {K : PySem.W.Frag} {mg : Str → Option Value} {base : Heap}
abbrev s__law_view : Stmt := top 15
abbrev n__law_view : List Str := ["_law_deck_here", "_law_many", "_law_at", "_law_cells", "_law_held", "_law_stands", "_law_k", "_law_cell", "_law_reached", "_law_rows", "_law_holders", "_law_other"]
theorem sc__law_view : FnScope n__law_view ["_law_deck_here"] (defScope s__law_view) := ⟨rfl, rfl, rfl, by decide +kernel, rfl, by decide +kernel, by decide +kernel⟩
def spVw : Sp := fun vs H Q _ => ∃ (D L : Addr) (n : Nat), vs = [.ref D] ∧ Deck H D L n ∧ n < 10 ^ 11 ∧ ∀ H' v (m p : Nat) rows, Kp [D, L] H H' → Deck H' D L (n + 1000) → TD H' v (viewD (m : Int) (p : Int) rows) → GoodV rows → m < 90 → p < 24 → (∀ r ∈ rows, r.c ≤ 30) → Q v H'
theorem ok_view {f f1 f2 : Addr} {fd d1 d2 : FuncData} (F : Fun K "_law_view" "_law_view" s__law_view f fd) (T : Bi mg) (z_tuple : mg "tuple" = none) (z_sorted : mg "sorted" = none) (z_set : mg "set" = none)
    (D1 : Df K mg "_law_draw" s__law_draw ["_law_deck_here", "_law_many"] f1 d1) (G1 : FnOk P w K mg base CX0 1 f1 d1 ["_law_deck_here", "_law_many"] spDraw)
    (D2 : Df K mg "_law_one" s__law_one ["_law_deck_here", "_law_items"] f2 d2) (G2 : FnOk P w K mg base CX0 2 f2 d2 ["_law_deck_here", "_law_items"] (spOne K)) : FnOk P w K mg base CX0 3 f fd ["_law_deck_here"] spVw := by
  refine F.ok sc__law_view (fun vs H Q E ⟨_, _, _, ev, _⟩ => by rw [ev]; rfl) (fun cdv A outer s H vs Q E hr ⟨D, L, n, ev, hD, hn, q⟩ => ?_)
  subst ev
  have hr1 : Room 1 _ := hr.mono (by decide)
  have hu : (A.deeper (envOfC "_law_view" (defScope s__law_view) s.heap.objs.size f cdv)).units + 1 < cLine := by have := hr.un; omega
  refine ⟨_, (pss_cons (ps_par (i := 1) (j := 2) (by rfl) sc__law_view.nd rfl rfl (by decide) rfl rfl (pa_cons (pe_call G1 hr1 (by rfl) D1.m D1.F.kp D1.b .nil pass0 (pa_cons (pv 0) (pa_cons pe_int pa_nil))) (pa_cons pe_int pa_nil)) (by rfl))
      (pss_cons (ps_asg (pe_tup (pa_cons (pe_lst pa_nil) (pa_cons pe_dnewK (pa_cons pe_dnewK pa_nil)))) (pg_tup rfl (pgs_cons (pg_name (i := 3) sc__law_view.nd rfl (.inr rfl)) (pgs_cons (pg_name (i := 4) sc__law_view.nd rfl (.inr rfl)) (pgs_cons (pg_name (i := 5) sc__law_view.nd rfl (.inr rfl)) pgs_nil)))))
      (pss_cons (ps_for PassesOwn.never rfl (pi_range1 (by rfl) T.z_range (pa_cons (pv 1) pa_nil)) (pg_name (i := 6) sc__law_view.nd rfl (.inl rfl))
      (pss_cons (ps_set (i := 2) sc__law_view.nd rfl (.inl rfl) (pe_op op_addE (pe_op op_addE (pv 2) pe_int) (pe_call G1 hr1 (by rfl) D1.m D1.F.kp D1.b .nil pass0 (pa_cons (pv 0) (pa_cons pe_int pa_nil)))))
      (pss_one (ps_expr (pe_bm PySem.F.plainAttrs_list PySem.F.slot_list_append PySem.F.type_list_append mt_append (pv 3) (pa_cons (pv 2) pa_nil))))))
      (pss_cons (ps_for PassesOwn.never rfl (pi_list (pv 3)) (pg_name (i := 7) sc__law_view.nd rfl (.inr rfl))
      (pss_cons (ps_dput hu (pv 4) (pv 7) (pe_lc (te := tCall (spOne K) [] E0 (tCons (tVar 0) (tCons (tVar 3) tNil))) (own := [("_law_k", 6)]) (by rfl) sc__law_view.nd (pi_range1 (by rfl) T.z_range (pa_cons (pe_call G2 hr (by rfl) D2.m D2.F.kp D2.b .nil pass0 (pa_cons (pv 0) (pa_cons (pe_lst (pa_cons pe_int (pa_cons pe_int (pa_cons pe_int (pa_cons pe_int (pa_cons pe_int pa_nil)))))) pa_nil))) pa_nil)) (blkOk_by (N := n__law_view) (sc := defScope s__law_view) (by decide +kernel)) (fun _ _ _ _ _ => (pg_name (i := 6) sc__law_view.nd rfl (.inl rfl))) (fun _ _ _ _ _ => pts_nil) (fun _ _ _ _ _ => (pe_call G2 hr (by rfl) D2.m D2.F.kp D2.b .nil pass0 (pa_cons (pv 0) (pa_cons (pv 3) pa_nil))))) rfl)
      (pss_one (ps_dput hu (pv 5) (pv 7) (pe_cmpR op_eq (pe_call G1 hr1 (by rfl) D1.m D1.F.kp D1.b .nil pass0 (pa_cons (pv 0) (pa_cons pe_int pa_nil))) pe_int (nomark _)) rfl))))
      (pss_cons (ps_asg (pe_tup (pa_cons (pe_lc (tt := tB (tDGet (tVar 5) (tVar 7))) (own := [("_law_cell", 7)]) (by rfl) sc__law_view.nd (pi_list (pv 3)) (blkOk_by (N := n__law_view) (sc := defScope s__law_view) (by decide +kernel)) (fun _ _ _ _ _ => (pg_name (i := 7) sc__law_view.nd rfl (.inl rfl))) (fun _ _ _ _ _ => pts_one (pt_val (pe_dget hu (pv 5) (pv 7) (fun _ _ => rfl)))) (fun _ _ _ _ _ => (pv 7))) (pa_cons pe_int pa_nil))) (pg_tup rfl (pgs_cons (pg_name (i := 8) sc__law_view.nd rfl (.inr rfl)) (pgs_cons (pg_name (i := 2) sc__law_view.nd rfl (.inl rfl)) pgs_nil))))
      (pss_cons (ps_while PassesOwn.never (pt_cmpR op_lt (pv 2) (pe_callB call_len_seq (by rfl) T.z_len (by decide +kernel) (pa_cons (pv 8) pa_nil)) (nomark _)) (pss_cons (ps_expr (pe_bm PySem.F.plainAttrs_list PySem.F.slot_list_extend PySem.F.type_list_extend mt_extend (pv 8) (pa_cons (pe_lc (tt := tTest (tOp (rIn K true) (tVar 7) (tVar 8))) (own := [("_law_cell", 7)]) (by rfl) sc__law_view.nd (pi_list (pe_callB (cr_sortedSet rfl) (by rfl) z_sorted (by decide +kernel) (pa_cons (pe_callTy (cr_setI rfl) (by rfl) z_set (by decide +kernel) (pa_cons (pe_dget hu (pv 4) (pe_ix ix_list (pv 8) (pv 2) (fun _ _ => rfl)) (fun _ _ => rfl)) pa_nil)) pa_nil))) (blkOk_by (N := n__law_view) (sc := defScope s__law_view) (by decide +kernel)) (fun _ _ _ _ _ => (pg_name (i := 7) sc__law_view.nd rfl (.inl rfl))) (fun _ _ _ _ _ => pts_one (pt_cmpR op_notIn_seq (pv 7) (pv 8) (by rfl))) (fun _ _ _ _ _ => (pv 7))) pa_nil)))
      (pss_one (ps_set (i := 2) sc__law_view.nd rfl (.inl rfl) (pe_op op_addE (pv 2) pe_int)))))
      (pss_cons (ps_set (i := 9) sc__law_view.nd rfl (.inl rfl) (pe_lst pa_nil))
      (pss_cons (ps_for PassesOwn.never rfl (pi_list (pv 3)) (pg_name (i := 7) sc__law_view.nd rfl (.inr rfl))
      (pss_cons (ps_set (i := 10) sc__law_view.nd rfl (.inl rfl) (pe_callTy call_tuple_of (by rfl) z_tuple (by decide +kernel) (pa_cons (pe_lc (tt := tTest (tOp (rIn K false) (tVar 7) (tDGet (tVar 4) (tVar 11)))) (own := [("_law_other", 11)]) (by rfl) sc__law_view.nd (pi_list (pv 3)) (blkOk_by (N := n__law_view) (sc := defScope s__law_view) (by decide +kernel)) (fun _ _ _ _ _ => (pg_name (i := 11) sc__law_view.nd rfl (.inl rfl))) (fun _ _ _ _ _ => pts_one (pt_cmpR op_in_seq (pv 7) (pe_dget hu (pv 4) (pv 11) (fun _ _ => rfl)) (by rfl))) (fun _ _ _ _ _ => (pv 11))) pa_nil)))
      (pss_one (ps_expr (pe_bm PySem.F.plainAttrs_list PySem.F.slot_list_append PySem.F.type_list_append mt_append (pv 9) (pa_cons (pe_tup (pa_cons (pv 7) (pa_cons (pe_dget hu (pv 5) (pv 7) (fun _ _ => rfl)) (pa_cons (pe_cmpR op_in_seq (pv 7) (pv 8) (by rfl)) (pa_cons (pv 10) pa_nil))))) pa_nil))))))
      (pss_one (ps_ret (pe_tup (pa_cons (pe_op op_addE pe_int (pe_call G1 hr1 (by rfl) D1.m D1.F.kp D1.b .nil pass0 (pa_cons (pv 0) (pa_cons pe_int pa_nil)))) (pa_cons (pe_call G1 hr1 (by rfl) D1.m D1.F.kp D1.b .nil pass0 (pa_cons (pv 0) (pa_cons pe_int pa_nil))) (pa_cons (pe_callTy call_tuple_of (by rfl) z_tuple (by decide +kernel) (pa_cons (pv 9) pa_nil)) pa_nil)))))))))))))), ?_⟩
  refine ⟨.ref D, rfl, D, L, _, 9, rfl, hD, by omega, by decide, by decide, fun H1 r1 k1 hD1 r10 r11 => ⟨_, _, rfl, ?_⟩⟩
  obtain ⟨mn, rfl⟩ := Int.eq_ofNat_of_zero_le r10
  have mn8 : mn ≤ 8 := by omega
  refine ⟨Nat.zero_le _, fun C nC => ?_⟩
  have sC := Same.up (o := HO.lst []) nC
  have gC : upd H1 C (HO.lst []) C = some (.lst []) := upd_same
  generalize upd H1 C (HO.lst []) = H2 at sC gC ⊢
  refine fun DH nH => ?_
  have sH := Same.up (o := HO.dK []) nH
  have gH : upd H2 DH (HO.dK []) DH = some (.dK []) := upd_same
  generalize upd H2 DH (HO.dK []) = H3 at sH gH ⊢
  refine fun DS nS => ?_
  have sS := Same.up (o := HO.dK []) nS
  have gS : upd H3 DS (HO.dK []) DS = some (.dK []) := upd_same
  generalize upd H3 DS (HO.dK []) = H4 at sS gS ⊢
  refine ⟨line1000 (Nat.le_of_ble_eq_true rfl), fun pt npt => ?_⟩
  have sP := Same.up (o := HO.tup [.ref C, .ref DH, .ref DS]) npt
  refine ⟨pt, _, rfl, SqT.of upd_same, rfl, _, _, rfl, _, _, rfl, _, _, rfl, rfl, ?_⟩
  have hD2 := hD1.sm sC
  have hD3 := hD2.sm sH
  have nC' : C ∉ [D, L] := by simpa using hD1.neD nC
  have nH' : DH ∉ [D, L] := by simpa using hD2.neD nH
  have nS' : DS ∉ [D, L] := by simpa using hD3.neD nS
  have sHS := Same.trans sH (Same.trans sS sP)
  have sSP := Same.trans sS sP
  have v0 : VH H (upd H4 pt (HO.tup [.ref C, .ref DH, .ref DS])) D L C DH DS (n + 1) [] [] [] := {
    kp := k1.trans (Kp.same (Same.trans sC sHS))
    dk := hD3.sm sSP
    c := sHS _ _ gC
    h := ⟨sSP _ _ gH, (fun _ z => nomatch z), List.nodup_nil, List.nodup_nil⟩
    s := sP _ _ gS
    nc := k1.none_of nC nC'
    nh := k1.none_of (sC.free nH) nH'
    ns := k1.none_of (sC.free (sH.free nS)) nS'
    dl := ⟨nC', nH', nS'⟩
    hd := ne_of_none gH nS
    hl := (fun _ z => nomatch z) }
  show tSeq _ _ _ [some (V.ref D), some (V.int (mn : Int)), some (V.int 0), some (V.ref C), some (V.ref DH), some (V.ref DS), none, none, none, none, none, none] (upd H4 pt (HO.tup [.ref C, .ref DH, .ref DS]))
  generalize upd H4 pt (HO.tup [.ref C, .ref DH, .ref DS]) = H5 at v0 ⊢
  clear sHS sSP sP sS gS sH gH sC gC hD3 hD2 hD1 npt nC nH nS nC' nH' nS' k1
  -- cells
  refine ⟨_, rfl, (mn : Int), rfl, by omega, by omega, ?_⟩
  refine for_range (lo := 0) (n := ((mn : Int)).toNat) (fun j σ H' => ∃ (at_ : Nat) (cs : List Nat) (x6 : Option V), VH H H' D L C DH DS (n + 1 + j) cs [] [] ∧ cs.length = j ∧ cs.Pairwise (· < ·) ∧ (∀ c ∈ cs, c ≤ at_) ∧ at_ ≤ 3 * j ∧ σ = [some (.ref D), some (.int (mn : Int)), some (.int (at_ : Int)), some (.ref C), some (.ref DH), some (.ref DS), x6, none, none, none, none, none])
    ⟨0, [], none, v0, rfl, .nil, (fun _ z => nomatch z), Nat.le_refl _, rfl⟩ ?_ ?_
  · rintro j σ H' hj ⟨at_, cs, x6, v, lc, pw, ha, h3, rfl⟩
    have hj : j < mn := by omega
    refine ⟨_, rfl, _, _, rfl, rfl, fun z ez => ⟨.ref D, rfl, D, L, _, 3, rfl, v.dk, by omega, by decide, by decide, fun H2 r2 k2 hD2 r20 r21 => ⟨_, _, rfl, rfl, fun z2 ez2 => ?_⟩⟩⟩
    have v2 := v.deck k2 hD2
    obtain ⟨a2, rfl⟩ : ∃ a2 : Nat, z2 = (a2 : Int) := ⟨z2.toNat, by omega⟩
    refine ⟨_, rfl, .inl ⟨rfl, _, SqL.of v2.c⟩, _, rfl, C, _, _, rfl, rfl, v2.c, lt_line (by unfold intsN; rw [List.length_map]; omega), ?_⟩
    have e : intsN cs ++ [V.int (a2 : Int)] = intsN (cs ++ [a2]) := (intsN_app cs [a2]).symm
    rw [e]
    refine ⟨a2, cs ++ [a2], _, v2.setC (cs ++ [a2]), by rw [List.length_append, lc]; rfl, List.pairwise_append.mpr ⟨pw, List.pairwise_singleton _ _, fun x hx y hy => ?_⟩, fun c hc => ?_, by omega, rfl⟩
    · rw [List.mem_singleton.mp hy]
      have := ha x hx
      omega
    · rcases List.mem_append.mp hc with h | h
      · have := ha c h
        omega
      · rw [List.mem_singleton.mp h]
        exact Nat.le_refl _
  rintro σ H6 ⟨at_, cs, x6, v1, lc, pw, ha, h3, rfl⟩
  have lc8 : cs.length ≤ 8 := by omega
  have at24 : at_ ≤ 24 := by omega
  have cs30 : ∀ c ∈ cs, c ≤ 30 := fun c hc => by have := ha c hc; omega
  have ndc : cs.Nodup := pw.imp (fun h => Nat.ne_of_lt h)
  have pw0 : cs.Pairwise (· < ·) := pw
  have v1 : VH H H6 D L C DH DS (n + 20) cs [] [] := v1.deck (Kp.refl _ _) (v1.dk.mono (by omega))
  clear v0 ha h3 lc
  -- held, stands
  refine ⟨_, rfl, C, rfl, ⟨_, SqL.of v1.c⟩, for_list (xs := intsN cs) (fun j σ H' => ∃ (hs : List HolE) (st : Nat → Bool) (x6 x7 : Option V), VH H H' D L C DH DS (n + 20 + j * 10) cs hs (stK st (cs.take j)) ∧ hs.map (fun x => x.1) = cs.take j ∧ (∀ x ∈ hs, x.2.2.length ≤ 2 ∧ ∀ e ∈ x.2.2, e ∈ cs) ∧ σ = [some (.ref D), some (.int (mn : Int)), some (.int (at_ : Int)), some (.ref C), some (.ref DH), some (.ref DS), x6, x7, none, none, none, none])
    ⟨[], fun _ => true, x6, none, v1, rfl, (fun _ z => nomatch z), rfl⟩ (fun j σ H' _ h => by obtain ⟨_, _, _, _, v, _⟩ := h; exact SqL.of v.c) ?_ ?_⟩
  · rintro j y σ H' hy ⟨hs, st, x6, x7, v, hk, hin, rfl⟩
    obtain ⟨c, hc, rfl⟩ := ints_at hy
    have hcm := List.mem_of_getElem? hc
    have hj : j < cs.length := (List.getElem?_eq_some_iff.mp hc).1
    obtain ⟨hcn, _⟩ := take_mem ndc hc
    have lcs : 0 < (intsN cs).length := by unfold intsN; rw [List.length_map]; omega
    have lhs : hs.length ≤ 8 := by
      have := congrArg List.length hk
      rw [List.length_map, List.length_take] at this
      omega
    refine ⟨.ref D, rfl, line1000 (Nat.le_of_ble_eq_true rfl), fun q1 nq1 => ?_⟩
    have sq := Same.up (o := HO.lst [.int 0, .int 0, .int 1, .int 1, .int 2]) nq1
    have gq : upd H' q1 (HO.lst [.int 0, .int 0, .int 1, .int 1, .int 2]) q1 = some (.lst [.int 0, .int 0, .int 1, .int 1, .int 2]) := upd_same
    obtain ⟨_, nqd, _⟩ := v.new nq1
    have v2 := v.same sq
    generalize upd H' q1 (HO.lst [.int 0, .int 0, .int 1, .int 1, .int 2]) = Ha at gq v2 ⊢
    refine one_nats v2.dk (by omega) gq nqd (by decide) (by decide) fun Hb y kb hDb my => ?_
    obtain ⟨kk, rfl, lkk⟩ : ∃ kk : Nat, y = .int (kk : Int) ∧ kk ≤ 2 := by
      simp only [List.mem_cons, List.not_mem_nil, or_false] at my
      rcases my with rfl | rfl | rfl | rfl | rfl
      · exact ⟨0, rfl, by decide⟩
      · exact ⟨0, rfl, by decide⟩
      · exact ⟨1, rfl, by decide⟩
      · exact ⟨1, rfl, by decide⟩
      · exact ⟨2, rfl, by decide⟩
    have v3 := v2.deck kb hDb
    refine ⟨(kk : Int), rfl, by omega, by omega, fun N nN => ?_⟩
    obtain ⟨nN0, nNd, nNC, nNH, nNS, nNx⟩ := v3.new nN
    refine lc_range (lo := 0) (n := ((kk : Int)).toNat) (GrowN (· ∈ cs) D L N Hb (n + 20 + j * 10 + 1)) (GrowN.start v3.dk nN) ?_ ?_
    · rintro i H4 hi g
      obtain ⟨_, cH, hD', _⟩ := id g
      have gC4 := cH.kp _ _ (by simp; exact ⟨nNC, by simpa using v3.dl.1⟩) v3.c
      refine ⟨rfl, .ref D, rfl, _, rfl, one_nats hD' (by omega) gC4 v3.dl.1 lcs (by unfold intsN; rw [List.length_map]; omega) fun H5 y k5 d5 my => ?_⟩
      obtain ⟨e, he, rfl⟩ := List.mem_map.mp my
      exact g.step (by omega) (deck_ch hD' d5 k5) d5 nNd he
    rintro Hc ⟨ys, cH, hDc, gN, lN, hN⟩
    have v4 : VH H Hc D L C DH DS (n + 20 + j * 10 + 1 + ((kk : Int)).toNat) cs hs (stK st (cs.take j)) := v3.deck (cH.less nN).kp hDc
    refine ⟨_, rfl, _, rfl, DH, _, rfl, DPut.k (k := kN c) v4.h.d (lt_line (by unfold holK; rw [List.length_map]; omega)), ?_⟩
    have v5 := v4.setH (c := c) gN nN0 nNd (Ne.symm nNC) nNx (by rw [hk]; exact hcn)
    generalize upd Hc DH (.dK (putK (holK hs) (kN c) (.ref N))) = Hd at v5 ⊢
    refine ⟨.ref D, rfl, D, L, _, 4, rfl, v5.dk, by omega, by decide, by decide, fun He r ke hDe r0 r1 => ⟨rfl, _, rfl, _, rfl, DS, _, rfl, DPut.k (k := kN c) (v5.deck ke hDe).s (lt_line (by unfold stK; rw [List.length_map, List.length_take]; omega)), ?_⟩⟩
    have v6 := (v5.deck ke hDe).setS (putK (stK st (cs.take j)) (kN c) (.bl (decide (V.int r = V.int 0))))
    rw [stK_step ndc hc] at v6 ⊢
    refine ⟨_, _, _, _, v6.deck (Kp.refl _ _) (v6.dk.mono (by omega)), ?_, fun x hx => ?_, rfl⟩
    · rw [List.map_append, hk, List.take_add_one, hc]
      rfl
    · rcases List.mem_append.mp hx with hx | hx
      · exact hin x hx
      · rw [List.mem_singleton.mp hx]
        exact ⟨by show ys.length ≤ 2; omega, hN⟩
  rintro σ H7 ⟨hs, st, x6, x7, v2, hk, hin, rfl⟩
  have ecs : (intsN cs).length = cs.length := by unfold intsN; rw [List.length_map]
  rw [ecs, List.take_length] at hk v2
  have v2 : VH H H7 D L C DH DS (n + 200) cs hs (stK st cs) := v2.deck (Kp.refl _ _) (v2.dk.mono (by omega))
  clear v1
  -- reached
  refine ⟨_, rfl, C, rfl, ⟨_, SqL.of v2.c⟩, fun RL nRL => ?_⟩
  obtain ⟨r0, rd, rC, rH, rS, rx⟩ := v2.new nRL
  refine lc_list (xs := intsN cs) (fun i H' => Same H7 H' ∧ H' RL = some (.lst (intsN ((cs.take i).filter st)))) ⟨Same.up nRL, upd_same⟩ (fun i H' _ h => SqL.of (h.1 _ _ v2.c)) ?_ ?_
  · rintro i y H' hy ⟨s', gR⟩
    obtain ⟨c, hc, rfl⟩ := ints_at hy
    have hcm := List.mem_of_getElem? hc
    have hi : i < cs.length := (List.getElem?_eq_some_iff.mp hc).1
    have e := filtN_take (p := st) hc
    have ll : (intsN ((cs.take i).filter st)).length < sizeLine := by
      refine lt_line ?_
      unfold intsN
      rw [List.length_map]
      have := List.length_filter_le st (cs.take i)
      rw [List.length_take] at this
      omega
    refine ⟨rfl, _, rfl, _, rfl, DS, _, rfl, .inl ⟨_, _, .inl (s' _ _ v2.s), rfl, (stK_some hcm).symm⟩, _, rfl, ?_⟩
    cases est : st c with
    | true =>
      rw [est] at e
      refine iteT ⟨_, rfl, _, gR, ll, G.Same.putN s' nRL, ?_⟩
      rw [upd_same, e, if_pos rfl, intsN_app]
      rfl
    | false =>
      rw [est] at e
      refine iteF ⟨s', ?_⟩
      rw [e, gR]
      simp
  rintro H8 ⟨s8, gR⟩
  rw [ecs, List.take_length] at gR
  refine ⟨line1000 (Nat.le_of_ble_eq_true rfl), fun pt2 npt2 => ?_⟩
  have sP2 := Same.up (o := HO.tup [.ref RL, .int 0]) npt2
  refine ⟨pt2, _, rfl, SqT.of upd_same, rfl, _, _, rfl, _, _, rfl, rfl, ?_⟩
  have v3 := v2.same (Same.trans s8 sP2)
  have gR := sP2 _ _ gR
  generalize upd H8 pt2 (HO.tup [.ref RL, .int 0]) = H9 at v3 gR ⊢
  clear sP2 npt2 s8 nRL v2
  obtain ⟨W, eW⟩ : ∃ W : Nat → L2.St → Hp → Prop, W = fun m σ H' => ∃ (R : List Nat) (a : Nat), VH H H' D L C DH DS (n + 200) cs hs (stK st cs) ∧ H' RL = some (.lst (intsN R)) ∧ R.Nodup ∧ (∀ x ∈ R, x ∈ cs) ∧ a ≤ R.length ∧ m = cs.length - a ∧ σ = [some (.ref D), some (.int (mn : Int)), some (.int (a : Int)), some (.ref C), some (.ref DH), some (.ref DS), x6, x7, some (.ref RL), none, none, none] := ⟨_, rfl⟩
  refine ⟨W, ⟨cs.length - 0, by rw [eW]; exact ⟨cs.filter st, 0, v3, gR, (List.filter_sublist).nodup ndc, fun x hx => (List.mem_filter.mp hx).1, Nat.zero_le _, rfl, rfl⟩⟩, ?_⟩
  clear v3 gR
  intro m σ H' hW
  rw [eW] at hW
  obtain ⟨R, a, v, gR, ndR, hR, haR, em, rfl⟩ := hW
  have lR : R.length ≤ cs.length := nd_len cs.length rfl ndR hR
  have eRl : ((intsN R).length : Int) = (R.length : Int) := by unfold intsN; rw [List.length_map]
  refine ⟨_, rfl, _, rfl, RL, _, rfl, .inl (SqL.of gR), _, _, rfl, rfl, _, rfl, ?_⟩
  dsimp only
  rw [eRl]
  refine ite2 (fun h => ?_) (fun h => ?_)
  · have h : (a : Int) < (R.length : Int) := of_decide_eq_true h
    refine ⟨fun σ' H' => ∃ m', m' < m ∧ W m' σ' H', fun _ _ hh => hh, ?_⟩
    have la : a < R.length := by omega
    obtain ⟨x0, hx0⟩ : ∃ x0, R[a]? = some x0 := ⟨_, List.getElem?_eq_getElem la⟩
    obtain ⟨u, hu, hv, hlk⟩ := hol_key hk (hR x0 (List.mem_of_getElem? hx0))
    obtain ⟨hu2, huc⟩ := hin u hu
    have gu := (v.h.l u hu).1
    have hat : (intsN R)[a]? = some (.int (x0 : Int)) := by unfold intsN; rw [List.getElem?_map, hx0]; rfl
    refine ⟨_, rfl, .inl ⟨rfl, _, SqL.of gR⟩, _, rfl, _, rfl, _, rfl, RL, _, _, _, rfl, rfl, SqL.of gR, atI_nat (j := a) hat, DH, _, rfl, .inl ⟨_, kN x0, .inl v.h.d, rfl, hv.symm⟩, ?_⟩
    refine ⟨u.2.1, u.2.2.map fun (c : Nat) => (c : Int), rfl, SqL.of (by rw [intsN_cast]; exact gu), by rw [List.length_map]; omega, fun sa sc nsa lsc => ?_⟩
    have sA := Same.up (o := SetO (cxOf CX0 P w K mg base n__law_view (Str.ofString "_law_view") (defScope s__law_view) f cdv A outer s H E).w sa (fun j => decide (j ∈ u.2.2.map fun (c : Nat) => (c : Int))) sc) nsa
    rw [List.length_map] at lsc
    refine nilP ⟨sa, _, sc, rfl, upd_same, by omega, fun ns p pw hmem hlen np => ?_⟩
    obtain ⟨ms, ems, ndm, hms⟩ := strict_nat (l := u.2.2) pw fun k hk => of_decide_eq_true ((hmem k).mp hk)
    rw [ems]
    have sB := Same.up (o := HO.lst (intsN ms)) np
    have gB : upd (upd H' sa (SetO (cxOf CX0 P w K mg base n__law_view (Str.ofString "_law_view") (defScope s__law_view) f cdv A outer s H E).w sa (fun j => decide (j ∈ u.2.2.map fun (c : Nat) => (c : Int))) sc)) p (HO.lst (intsN ms)) p = some (.lst (intsN ms)) := upd_same
    have sAB := Same.trans sA sB
    show (∃ a_1, V.ref p = V.ref a_1 ∧ _)
    have v1 := v.same sAB
    have gR1 := sAB _ _ gR
    generalize upd (upd H' sa (SetO (cxOf CX0 P w K mg base n__law_view (Str.ofString "_law_view") (defScope s__law_view) f cdv A outer s H E).w sa (fun j => decide (j ∈ u.2.2.map fun (c : Nat) => (c : Int))) sc)) p (HO.lst (intsN ms)) = Ha at gB v1 gR1 ⊢
    clear sA sB sAB
    refine ⟨p, rfl, ⟨_, SqL.of gB⟩, fun N nN => ?_⟩
    obtain ⟨nN0, nNd, nNC, nNH, nNS, nNx⟩ := v1.new nN
    have lms : ms.length ≤ cs.length := nd_len cs.length rfl ndm fun x hx => huc x (hms x hx)
    refine lc_list (xs := intsN ms) (fun i H' => Same Ha H' ∧ H' N = some (.lst (intsN (notin R (ms.take i))))) ⟨Same.up nN, upd_same⟩ (fun i H' _ h => SqL.of (h.1 _ _ gB)) ?_ ?_
    · rintro i z H3 hz ⟨s3, gL⟩
      obtain ⟨e, he, rfl⟩ := ints_at hz
      have li : i < ms.length := (List.getElem?_eq_some_iff.mp he).1
      have ll : (intsN (notin R (ms.take i))).length < sizeLine := by
        refine lt_line ?_
        unfold intsN notin
        rw [List.length_map]
        have := List.length_filter_le (fun h => decide (h ∉ R)) (ms.take i)
        rw [List.length_take] at this
        omega
      have en := notin_take (M := R) he
      refine ⟨rfl, _, rfl, _, rfl, RL, _, rfl, .inl (SqL.of (s3 _ _ gR1)), rfl, flat_intsN R, _, rfl, ?_⟩
      rw [inV_nat]
      by_cases c : e ∈ R
      · rw [decide_eq_true c]
        rw [if_pos c, List.append_nil] at en
        exact iteF ⟨s3, by rw [en]; exact gL⟩
      · rw [decide_eq_false c]
        rw [if_neg c] at en
        refine iteT ⟨_, rfl, _, gL, ll, G.Same.putN s3 nN, ?_⟩
        rw [upd_same, en, intsN_app]
        rfl
    rintro H3 ⟨s3, gN⟩
    have elm : (intsN ms).length = ms.length := by unfold intsN; rw [List.length_map]
    rw [elm, List.take_length] at gN
    have v3 := v1.same s3
    have gR3 := s3 _ _ gR1
    have lnt : (notin R ms).length ≤ ms.length := List.length_filter_le _ _
    refine ⟨RL, N, _, _, rfl, rfl, gR3, gN, Nat.le_of_lt (lt_line (by unfold intsN; rw [List.length_map, List.length_map]; omega)), ?_⟩
    have eX : intsN R ++ intsN (notin R ms) = intsN (R ++ notin R ms) := (intsN_app _ _).symm
    rw [eX]
    have v4 : VH H (upd H3 RL (.lst (intsN (R ++ notin R ms)))) D L C DH DS (n + 200) cs hs (stK st cs) := v3.put r0 rd rC rH rS rx
    refine ⟨_, rfl, _, _, rfl, rfl, fun z ez => ⟨cs.length - (a + 1), by omega, ?_⟩⟩
    rw [eW]
    refine ⟨R ++ notin R ms, a + 1, v4, upd_same, ?_, fun x hx => ?_, by rw [List.length_append]; omega, rfl, ?_⟩
    · refine List.nodup_append.mpr ⟨ndR, (List.filter_sublist).nodup ndm, fun x hx y hy z => ?_⟩
      have h2 := (List.mem_filter.mp hy).2
      exact (of_decide_eq_true h2) (by rw [← z]; exact hx)
    · rcases List.mem_append.mp hx with h | h
      · exact hR x h
      · exact huc x (hms x (List.mem_filter.mp h).1)
    · rw [show z = ((a + 1 : Nat) : Int) by omega]
      rfl
  · have h : ¬ (a : Int) < (R.length : Int) := fun z => h (decide_eq_true z)
    clear eW W em
    refine ⟨Nat.zero_le _, fun RW nRW => ?_⟩
    have sR := Same.up (o := HO.lst []) nRW
    have gW : upd H' RW (HO.lst []) RW = some (.lst []) := upd_same
    have vR := v.same sR
    obtain ⟨W0, Wd, nCW, nHW, nSW, nxW⟩ := v.new nRW
    have nRLW := ne_of_none gR nRW
    have nRW' := nRW
    have gR1 := sR _ _ gR
    have sR' := sR
    obtain ⟨cs_, ecs_⟩ : ∃ F : Nat → VR, F = fun c => ⟨c, st c, decide (c ∈ R), cs.filter fun o => decide (c ∈ lookH hs o)⟩ := ⟨_, rfl⟩
    generalize upd H' RW (HO.lst []) = Hb at gW vR gR1 sR' ⊢
    refine ⟨_, rfl, C, rfl, ⟨_, SqL.of vR.c⟩, for_list (xs := intsN cs) (fun j σ H2 => ∃ (rvs : List V) (x7 x10 x11 : Option V), Ch [RW] Hb H2 ∧ H2 RW = some (.lst rvs) ∧ TDs H2 rvs (((cs.take j).map cs_).map VR.data) ∧ σ = [some (.ref D), some (.int (mn : Int)), some (.int (a : Int)), some (.ref C), some (.ref DH), some (.ref DS), x6, x7, some (.ref RL), some (.ref RW), x10, x11])
      ⟨[], x7, none, none, Ch.refl _ _, gW, .nil, rfl⟩ (fun j σ H2 _ h => by obtain ⟨_, _, _, _, c, _⟩ := h; exact SqL.of (c.kp _ _ (by simpa using nCW) vR.c)) ?_ ?_⟩
    · rintro j y σ H2 hy ⟨rvs, x7, x10, x11, c2, gW2, td2, rfl⟩
      obtain ⟨c, hc, rfl⟩ := ints_at hy
      have hcm := List.mem_of_getElem? hc
      have hj : j < cs.length := (List.getElem?_eq_some_iff.mp hc).1
      have lr : rvs.length ≤ j := by rw [td2.len, List.length_map, List.length_map, List.length_take]; omega
      have gC2 := c2.kp _ _ (by simpa using nCW) vR.c
      have gH2 := c2.kp _ _ (by simpa using nHW) vR.h.d
      have gS2 := c2.kp _ _ (by simpa using nSW) vR.s
      have gR2 := c2.kp _ _ (by simpa using nRLW) gR1
      refine ⟨_, rfl, C, rfl, ⟨_, SqL.of gC2⟩, fun N nN => ?_⟩
      refine lc_list (xs := intsN cs) (fun i H3 => Same H2 H3 ∧ H3 N = some (.lst (intsN ((cs.take i).filter fun o => decide (c ∈ lookH hs o))))) ⟨Same.up nN, upd_same⟩ (fun i H3 _ h => SqL.of (h.1 _ _ gC2)) ?_ ?_
      · rintro i z H3 hz ⟨s3, gL⟩
        obtain ⟨o, ho, rfl⟩ := ints_at hz
        have li : i < cs.length := (List.getElem?_eq_some_iff.mp ho).1
        have ll : (intsN ((cs.take i).filter fun o => decide (c ∈ lookH hs o))).length < sizeLine := by
          refine lt_line ?_
          unfold intsN
          rw [List.length_map]
          have := List.length_filter_le (fun o => decide (c ∈ lookH hs o)) (cs.take i)
          rw [List.length_take] at this
          omega
        have en := filtN_take (p := fun o => decide (c ∈ lookH hs o)) ho
        obtain ⟨u, hu, hv, hlk⟩ := hol_key hk (List.mem_of_getElem? ho)
        have gu := c2.kp _ _ (by simpa using nxW u hu) (vR.h.l u hu).1
        refine ⟨rfl, _, rfl, _, rfl, _, rfl, DH, _, rfl, .inl ⟨_, kN o, .inl (s3 _ _ gH2), rfl, hv.symm⟩, ?_⟩
        refine ⟨u.2.1, _, rfl, .inl (SqL.of (s3 _ _ gu)), rfl, flat_intsN _, _, rfl, ?_⟩
        rw [inV_nat]
        by_cases cc : c ∈ u.2.2
        · rw [decide_eq_true cc]
          rw [hlk, decide_eq_true cc, if_pos rfl] at en
          refine iteT ⟨_, rfl, _, gL, ll, G.Same.putN s3 nN, ?_⟩
          rw [upd_same, en, intsN_app]
          rfl
        · rw [decide_eq_false cc]
          rw [hlk, decide_eq_false cc, if_neg (by decide), List.append_nil] at en
          exact iteF ⟨s3, by rw [en]; exact gL⟩
      rintro H3 ⟨s3, gL⟩
      rw [ecs, List.take_length] at gL
      refine ⟨N, _, rfl, .inl ⟨SqL.of gL, fun q4 nq => ?_⟩⟩
      have s4 := Same.up (o := HO.tup (intsN (cs.filter fun o => decide (c ∈ lookH hs o)))) nq
      have gq : upd H3 q4 (HO.tup (intsN (cs.filter fun o => decide (c ∈ lookH hs o)))) q4 = some (.tup (intsN (cs.filter fun o => decide (c ∈ lookH hs o)))) := upd_same
      have s34 := Same.trans s3 s4
      generalize upd H3 q4 (HO.tup (intsN (cs.filter fun o => decide (c ∈ lookH hs o)))) = H4 at gq s34 ⊢
      clear s3 s4 nq gL
      refine ⟨_, rfl, .inl ⟨rfl, _, SqL.of (s34 _ _ gW2)⟩, _, rfl, _, rfl, _, rfl, DS, _, rfl, .inl ⟨_, _, .inl (s34 _ _ gS2), rfl, (stK_some hcm).symm⟩, ?_⟩
      refine ⟨_, rfl, _, rfl, RL, _, rfl, .inl (SqL.of (s34 _ _ gR2)), rfl, flat_intsN R, ?_⟩
      rw [inV_nat, if_neg Bool.false_ne_true]
      refine ⟨_, rfl, line1000 (Nat.le_of_ble_eq_true rfl), fun t5 n5 => ?_⟩
      have s5 := Same.up (o := HO.tup [.int (c : Int), .bl (st c), .bl (decide (c ∈ R)), .ref q4]) n5
      have gt : upd H4 t5 (HO.tup [.int (c : Int), .bl (st c), .bl (decide (c ∈ R)), .ref q4]) t5 = some (.tup [.int (c : Int), .bl (st c), .bl (decide (c ∈ R)), .ref q4]) := upd_same
      have gq5 := s5 _ _ gq
      have s345 := Same.trans s34 s5
      have gW5 := s345 _ _ gW2
      have c5 : Ch [RW] Hb (upd H4 t5 (HO.tup [.int (c : Int), .bl (st c), .bl (decide (c ∈ R)), .ref q4])) := c2.trans (Ch.same s345)
      have td5 := TDs.ch (Ch.same (S := []) s345) _ _ td2
      generalize upd H4 t5 (HO.tup [.int (c : Int), .bl (st c), .bl (decide (c ∈ R)), .ref q4]) = H5 at gt gq5 gW5 c5 td5 ⊢
      refine ⟨RW, _, _, rfl, rfl, gW5, lt_line (by omega), ?_⟩
      have c6 : Ch [RW] H5 (upd H5 RW (.lst (rvs ++ [.ref t5]))) := (Ch.refl _ _).put (by simp) gW5 (fun xs z => by cases z)
      refine ⟨rvs ++ [.ref t5], _, _, _, c5.trans c6, upd_same, ?_, rfl⟩
      rw [List.take_add_one, hc, List.map_append, List.map_append]
      refine (TDs.ch c6 _ _ td5).snoc ?_
      rw [ecs_]
      exact .tup (c6.tu _ _ gt) (.cons (.int _) (.cons (.bl _) (.cons (.bl _) (.cons (.tup (c6.tu _ _ gq5) (ints_tds _)) .nil))))
    · rintro σ H2 ⟨rvs, x7, x10, x11, c2, gW2, td2, rfl⟩
      rw [ecs, List.take_length] at td2
      have kp2 : Kp [D, L] H H2 := (((v.kp.trans (Kp.same sR')).mono (T := [RW, D, L]) fun b hb => List.mem_cons_of_mem _ hb).trans (c2.kp.mono (T := [RW, D, L]) fun b hb => by rw [List.mem_singleton.mp hb]; simp)).fresh W0
      have dk2 := vR.dk.kp c2.kp (by intro z; exact Wd (by simp at z; simp [z])) (by intro z; exact Wd (by simp at z; simp [z]))
      refine ⟨.ref D, rfl, D, L, _, 60, rfl, dk2, by omega, by decide, by decide, fun H3 r k3 hD3 r0 r1 => ⟨_, _, rfl, rfl, fun z ez => ⟨.ref D, rfl, D, L, _, 24, rfl, hD3, by omega, by decide, by decide, fun H4 r' k4 hD4 r0' r1' => ?_⟩⟩⟩
      have k34 := k3.trans k4
      have gW4 := k34 _ _ Wd gW2
      have td4 := TDs.ch ((deck_ch dk2 hD3 k3).trans (deck_ch hD3 hD4 k4)) _ _ td2
      refine ⟨_, rfl, RW, rvs, rfl, .inl ⟨SqL.of gW4, fun l nl => ?_⟩⟩
      have s5 := Same.up (o := HO.tup rvs) nl
      have gl : upd H4 l (HO.tup rvs) l = some (.tup rvs) := upd_same
      have td5 := TDs.ch (Ch.same (S := []) s5) _ _ td4
      generalize upd H4 l (HO.tup rvs) = H5 at s5 gl td5 ⊢
      refine ⟨line1000 (Nat.le_of_ble_eq_true rfl), fun p6 n6 => ?_⟩
      have s6 := Same.up (o := HO.tup [.int z, .int r', .ref l]) n6
      obtain ⟨mz, rfl⟩ := Int.eq_ofNat_of_zero_le (a := z) (by omega)
      obtain ⟨pr, rfl⟩ := Int.eq_ofNat_of_zero_le r0'
      refine q _ _ mz pr (cs.map cs_) ((kp2.trans k34).trans (Kp.same (Same.trans s5 s6))) (((hD4.sm s5).sm s6).mono (by omega)) (.tup upd_same (.cons (.int _) (.cons (.int _) (.cons (.tup (s6 _ _ gl) (TDs.ch (Ch.same (S := []) s6) _ _ td5)) .nil)))) ?_ (by omega) (by omega) (fun r hr => ?_)
      · have emc : (cs.map cs_).map VR.c = cs := by
          rw [List.map_map, ecs_]
          exact List.map_id _
        refine ⟨by rw [emc]; exact ndc, by rw [List.length_map]; omega, by rw [emc]; exact pw0, fun r hr => ?_⟩
        rw [emc]
        obtain ⟨c, hc, rfl⟩ := List.mem_map.mp hr
        rw [ecs_]
        exact ⟨(List.filter_sublist).nodup ndc, fun h hh => (List.mem_filter.mp hh).1⟩
      · obtain ⟨c, hc, rfl⟩ := List.mem_map.mp hr
        rw [ecs_]
        exact cs30 c hc
end
end G

set_option Elab.async false
set_option linter.all false
set_option maxRecDepth 100000
set_option maxHeartbeats 4000000
/-! C(): a class without an __init__ of its own. -/
namespace G
open PySem PySem.Spec PyProof.Rows L2
structure Mk0 (K : PySem.W.Frag) (C : Addr) : Prop where
  makes : PySem.W.makesIn K C = true
  init : PySem.W.findIn K (.ref C) "__init__" = some (some (.builtin "object.__init__"))
  kp : PySem.W.keepIn K (.ref C) = true
theorem run_make00 {X : Cx} {pins : List (Addr × Obj)} {σ : L2.St} {H : Hp} {s : Shared} {C : Addr} {Q : VK} (M : Mk0 X.K C) (I : Inv X pins σ H s)
    (h : ∀ x dx, H x = none → H dx = none → dx ≠ x → Q (.ref x) (upd (upd H dx (.own x)) x (.ins C dx []))) : wpAny (model X.prog X.w) X.A (call (.ref C) []) (EP X pins σ Q) X.xe s := by
  have I2 := I.made (C := C)
  have hq := h (s.heap.objs.size + 1) s.heap.objs.size (I.hok.fresh (Nat.le_succ _)) (I.hok.fresh (Nat.le_refl _)) (Nat.ne_of_lt (Nat.lt_succ_self _))
  obtain ⟨hp, g, d, t, os⟩ := s
  refine wpAny_call (PySem.W.make_core (PySem.W.makes_of I.kIn M.makes) (PySem.W.looks_findIn I.kIn M.init) (fun self A Q E s _ hq => by rw [F.slot_object_init.bind]; exact wpAny_pure hq) (.inr ⟨rfl, rfl⟩) ?_)
  refine codeAny_call_builtin F.slot_object_init.plain F.entry_object_init (PySem.W.check_slot (owner := "object") (n := "__init__") (by decide +kernel) (by decide +kernel) (fun A' Q' E' s' ext hq' => ?_) (F.args_object_init_1 _) ?_)
  · have hx : s'.heap.get? (hp.objs.size + 1) = some (PySem.W.instObj C hp.objs.size) := ext _ _ (by
      have e : (hp.push PySem.W.emptyDict).objs.size = hp.objs.size + 1 := by simp [Heap.push]
      exact Heap.get?_push_at e.symm rfl)
    refine wpAny_bind (wpAny_typeOf_ref hx ?_)
    exact (PySem.W.makes_of (M := model X.prog X.w) I2.kIn M.makes).top A' Q' E' s' ext hq'
  · exact wpAny_pure ⟨rfl, V.ref (hp.objs.size + 1), _, I2, rfl, hq⟩
def tMake0 (C : Addr) : TE := fun _ H Q => ∀ x dx, H x = none → H dx = none → dx ≠ x → Q (.ref x) (upd (upd H dx (.own x)) x (.ins C dx []))
theorem pe_make00 {X : Cx} {x : Str} {p pos : Pos} {C : Addr} (M : Mk0 X.K C) (hg : Gl X x) (hm : X.mg x = some (.ref C)) (hdb : (x == ("__debug__" : Str)) = false := by decide) : PE X (.Call (.Name x p) [] [] pos) (tMake0 C) := by
  refine ⟨fun pins s σ H Q I h => ?_⟩
  refine wpAny_Call_Name_kw (ld_glob I hg hm ?_ hdb)
  exact PySem.W.callWith_K0 I.kIn M.kp (run_make00 M I h)
end G

set_option Elab.async false
set_option linter.all false
set_option maxRecDepth 100000
set_option maxHeartbeats 8000000
/-! the inits of rules; Places() without arguments. -/
namespace G
open PySem PySem.Spec PyProof.Rows L2 StX
theorem pe_cons {X : Cx} {e : Expr} {te tw : TE} (h : PE X e te) (w : ∀ σ H Q, tw σ H Q → te σ H Q) : PE X e tw := ⟨fun pins s σ H Q I q => h.run pins s σ H Q I (w σ H Q q)⟩
theorem inst_same {H : Hp} {x dx C : Addr} (n1 : H x = none) (n2 : H dx = none) (ne : dx ≠ x) : Same H (upd (upd H dx (.own x)) x (.ins C dx [])) :=
  Same.trans (Same.up n2) (Same.up (by rw [upd_ne (Ne.symm ne)]; exact n1))
/-- a new instance that is given a field -/
theorem inst_fld {H : Hp} {x dx C : Addr} {fs : List (Str × V)} (n1 : H x = none) (n2 : H dx = none) (ne : dx ≠ x) : Same H (upd (upd (upd H dx (.own x)) x (.ins C dx [])) x (.ins C dx fs)) := by
  intro b o h
  have e1 : b ≠ x := fun z => by rw [z, n1] at h; cases h
  have e2 : b ≠ dx := fun z => by rw [z, n2] at h; cases h
  rw [upd_ne e1, upd_ne e1, upd_ne e2]
  exact h
/-- a new instance that is given a new tuple -/
theorem inst_tup {H : Hp} {x dx p C : Addr} {vs : List V} {fs : List (Str × V)} (n1 : H x = none) (n2 : H dx = none) (ne : dx ≠ x) (n3 : upd (upd H dx (.own x)) x (.ins C dx []) p = none) :
    Same H (upd (upd (upd (upd H dx (.own x)) x (.ins C dx [])) p (.tup vs)) x (.ins C dx fs)) ∧ upd (upd (upd (upd H dx (.own x)) x (.ins C dx [])) p (.tup vs)) x (.ins C dx fs) p = some (.tup vs) ∧ upd (upd (upd H dx (.own x)) x (.ins C dx [])) p (.tup vs) x = some (.ins C dx []) := by
  have np : x ≠ p := fun z => by rw [← z, upd_same] at n3; cases n3
  have s := inst_same (C := C) n1 n2 ne
  refine ⟨fun b o h => ?_, by rw [upd_ne (Ne.symm np), upd_same], by rw [upd_ne np, upd_same]⟩
  have e1 : b ≠ x := fun z => by rw [z, n1] at h; cases h
  have e3 : b ≠ p := fun z => by rw [← z, s _ _ h] at n3; cases n3
  rw [upd_ne e1, upd_ne e3]
  exact s _ _ h
theorem eqv_nilT (l : List Nat) : PyData.eqv (.tuple (intD l)) (.tuple []) = l.isEmpty := by
  cases l <;> rfl
theorem shaped_intsT (l : List Nat) : SeqAt.shaped (.tuple (intD l)) = true := by
  obtain ⟨a, b⟩ := lay_ints l
  unfold SeqAt.shaped
  simp only [PyData.canLay0, PyData.depth, a, b]
  decide
section
variable {P : Program} {w : World} {K : PySem.W.Frag} {mg : Str → Option Value} {base : Heap} {C : Addr}
abbrev s_pinit : Stmt := inClass (top 9) 0
abbrev n_pinit : List Str := ["self", "places"]
theorem sc_pinit : FnScope n_pinit ["self", "places"] (defScope s_pinit) := ⟨rfl, rfl, rfl, by decide +kernel, rfl, by decide +kernel, by decide +kernel⟩
def spPI0 (C : Addr) : Sp := fun vs H Q _ => ∃ (x dx : Addr) (t : V), vs = [.ref x, t] ∧ H x = some (.ins C dx []) ∧ Q .non (upd H x (.ins C dx [("_places", t)]))
def spPI (C : Addr) : Sp := fun vs H Q E => ∃ ws rest, vs = ws ++ rest ∧ ws.length = ["self"].length ∧ rest.length ≤ sizeLine ∧ ∀ p, H p = none → spPI0 C (ws ++ [V.ref p]) (upd H p (.tup rest)) Q E
theorem ok_pi {f : Addr} {fd : FuncData} (F : Fun K "__init__" "Places.__init__" s_pinit f fd) (c : Cls K C) (N : NoAttr K C "_places") : FnR P w K mg base CX0 1 f (spPI C) := by
  obtain ⟨oc, od, kV, doc, pm, an, cdv, ct, osl, rfl, lk, hcd⟩ := F.ex
  refine fn_star (ps := ["self"]) (pv := "places") lk hcd sc_pinit cxUp_none (bind_star1 (B := fun l => bindArgs (PySem.W.fnOf "__init__" "Places.__init__" (defArgs s_pinit) (defBody s_pinit) (defScope s_pinit) Value.none kV doc pm an cdv ct) ⟨l, []⟩) (p1 := "self") (pv := "places") (fun a => rfl) (fun a r rs => rfl)) fun A outer s H vs Q E hr ⟨x, dx, t, ev, hx, q⟩ => ?_
  subst ev
  exact ⟨_, PSs.nox (pss_one (ps_fld (pv 0) (pv 1) rfl)), _, rfl, _, rfl, x, C, dx, [], rfl, hx, c, N, by decide, q⟩
abbrev s_binit : Stmt := inClass (top 10) 0
abbrev n_binit : List Str := ["self", "most"]
theorem sc_binit : FnScope n_binit ["self", "most"] (defScope s_binit) := ⟨rfl, rfl, rfl, by decide +kernel, rfl, by decide +kernel, by decide +kernel⟩
def spBI (C : Addr) : Sp := fun vs H Q _ => ∃ (x dx : Addr) (t : V), vs = [.ref x, t] ∧ H x = some (.ins C dx []) ∧ Q .non (upd H x (.ins C dx [("_most", t)]))
theorem ok_bi {f : Addr} {fd : FuncData} (F : Fun K "__init__" "Above.__init__" s_binit f fd) (c : Cls K C) (N : NoAttr K C "_most") : FnOk P w K mg base CX0 1 f fd ["self", "most"] (spBI C) := by
  refine F.ok sc_binit (fun vs H Q E ⟨_, _, _, ev, _⟩ => by rw [ev]; rfl) (fun cdv A outer s H vs Q E hr ⟨x, dx, t, ev, hx, q⟩ => ?_)
  subst ev
  exact ⟨_, (pss_one (ps_fld (pv 0) (pv 1) rfl)), _, rfl, _, rfl, x, C, dx, [], rfl, hx, c, N, by decide, q⟩
end
theorem pe_makeR0 {X : Cx} {CX : CXT} {k : Nat} {f C : Addr} {sp : Sp} {E : XK} {x : Str} {p pos : Pos} (M : Mk X.K C f) (F : FnR X.prog X.w X.K X.mg X.base CX k f sp) (hr : Room (k + 1) X.A) (hg : Gl X x) (hm : X.mg x = some (.ref C)) (hx : Passes CX X E) (hdb : (x == ("__debug__" : Str)) = false := by decide) : PE X (.Call (.Name x p) [] [] pos) (tMakeR C sp E tNil) := by
  refine ⟨fun pins s σ H Q I h => ?_⟩
  refine wpAny_Call_Name_kw (ld_glob I hg hm ?_ hdb)
  exact PySem.W.callWith_K0 I.kIn M.kp (run_makeR (us := []) (vs := []) M F hr hx I .nil h)
end G

set_option Elab.async false
set_option linter.all false
set_option maxRecDepth 100000
set_option maxHeartbeats 8000000
/-! _law_basic. -/
namespace G
open PySem PySem.Spec PyProof.Rows L2 StX
section
variable {P : Program} {w : World} {K : PySem.W.Frag} {mg : Str → Option Value} {base : Heap} {cO : RK → Addr}
abbrev s__law_basic : Stmt := top 16
abbrev n__law_basic : List Str := ["_law_deck_here", "_law_kind", "_law_most", "_law_places", "_law_k"]
theorem sc__law_basic : FnScope n__law_basic ["_law_deck_here"] (defScope s__law_basic) := ⟨rfl, rfl, rfl, by decide +kernel, rfl, by decide +kernel, by decide +kernel⟩
def spBa (cO : RK → Addr) : Sp := fun vs H Q _ => ∃ (D L : Addr) (n : Nat), vs = [.ref D] ∧ Deck H D L n ∧ n < 10 ^ 11 ∧ ∀ H' t x told d, Kp [D, L] H H' → Deck H' D L (n + 20) → H' t = some (.tup [.ref x, .ref told]) → RuleAt cO H' x d → ToldAt H' told d → Q (.ref t) H'
theorem ok_basic {f f1 f2 fP fB : Addr} {fd d1 d2 dB : FuncData} (F : Fun K "_law_basic" "_law_basic" s__law_basic f fd) (T : Bi mg) (z_tuple : mg "tuple" = none)
    (D1 : Df K mg "_law_draw" s__law_draw ["_law_deck_here", "_law_many"] f1 d1) (G1 : FnOk P w K mg base CX0 1 f1 d1 ["_law_deck_here", "_law_many"] spDraw)
    (D2 : Df K mg "_law_one" s__law_one ["_law_deck_here", "_law_items"] f2 d2) (G2 : FnOk P w K mg base CX0 2 f2 d2 ["_law_deck_here", "_law_items"] (spOne K))
    (MR : Mk0 K (cO .never)) (mR : mg "Rule" = some (.ref (cO .never))) (MA : Mk0 K (cO .all)) (mA : mg "AtOnce" = some (.ref (cO .all))) (MC : Mk0 K (cO .counting)) (mC : mg "Counting" = some (.ref (cO .counting)))
    (MP : Mk K (cO .places) fP) (mP : mg "Places" = some (.ref (cO .places))) (GP : FnR P w K mg base CX0 1 fP (spPI (cO .places)))
    (MB : Mk K (cO .above) fB) (mB : mg "Above" = some (.ref (cO .above))) (GB : FnOk P w K mg base CX0 1 fB dB ["self", "most"] (spBI (cO .above))) (BB : Binds K dB ["self", "most"] []) : FnOk P w K mg base CX0 3 f fd ["_law_deck_here"] (spBa cO) := by
  refine F.ok sc__law_basic (fun vs H Q E ⟨_, _, _, ev, _⟩ => by rw [ev]; rfl) (fun cdv A outer s H vs Q E hr ⟨D, L, n, ev, hD, hn, q⟩ => ?_)
  subst ev
  have hr1 : Room 1 _ := hr.mono (by decide)
  have hrP := hr
  have hrB := hr
  have hu64 : (A.deeper (envOfC "_law_basic" (defScope s__law_basic) s.heap.objs.size f cdv)).units + 64 < cLine := by have := hr.un; omega
  refine ⟨_, (pss_cons (ps_set (i := 1) sc__law_basic.nd rfl (.inl rfl) (pe_call G1 hr1 (by rfl) D1.m D1.F.kp D1.b .nil pass0 (pa_cons (pv 0) (pa_cons pe_int pa_nil))))
      (pss_cons (ps_if (pt_cmpR op_eq (pv 1) pe_int (nomark _))
      (pss_one (ps_ret (pe_tup (pa_cons (pe_make00 MR (by rfl) mR) (pa_cons (pe_tup (pa_cons pe_str (pa_cons pe_non pa_nil))) pa_nil)))))
      pss_nil)
      (pss_cons (ps_if (pt_cmpR op_lt (pv 1) pe_int (nomark _))
      (pss_one (ps_ret (pe_tup (pa_cons (pe_make00 MA (by rfl) mA) (pa_cons (pe_tup (pa_cons pe_str (pa_cons pe_non pa_nil))) pa_nil)))))
      pss_nil)
      (pss_cons (ps_if (pt_cmpR op_lt (pv 1) pe_int (nomark _))
      (pss_one (ps_ret (pe_tup (pa_cons (pe_make00 MC (by rfl) mC) (pa_cons (pe_tup (pa_cons pe_str (pa_cons pe_non pa_nil))) pa_nil)))))
      pss_nil)
      (pss_cons (ps_if (pt_cmpR op_eq (pv 1) pe_int (nomark _))
      (pss_cons (ps_set (i := 2) sc__law_basic.nd rfl (.inl rfl) (pe_call G2 hr (by rfl) D2.m D2.F.kp D2.b .nil pass0 (pa_cons (pv 0) (pa_cons (pe_lst (pa_cons (pe_un un_neg pe_int) (pa_cons pe_int (pa_cons pe_int (pa_cons pe_int (pa_cons pe_int (pa_cons pe_int (pa_cons (pe_cons (tw := tC (.int (10 ^ 20))) (pe_op op_pow pe_int pe_int) (fun _ _ _ h => ⟨_, _, rfl, rfl, ⟨by decide, by decide, by decide⟩, h⟩)) pa_nil)))))))) pa_nil))))
      (pss_one (ps_ret (pe_tup (pa_cons (pe_make MB GB hrB (by rfl) mB BB .nil pass0 (pa_cons (pv 2) pa_nil)) (pa_cons (pe_tup (pa_cons pe_str (pa_cons (pv 2) pa_nil))) pa_nil))))))
      pss_nil)
      (pss_cons (ps_set (i := 3) sc__law_basic.nd rfl (.inl rfl) (pe_callTy call_tuple_of (by rfl) z_tuple (by decide +kernel) (pa_cons (pe_lc (te := tCall spDraw [] E0 (tCons (tVar 0) (tCons (tC (.int 24)) tNil))) (own := [("_law_k", 4)]) (by rfl) sc__law_basic.nd (pi_range1 (by rfl) T.z_range (pa_cons (pe_call G1 hr1 (by rfl) D1.m D1.F.kp D1.b .nil pass0 (pa_cons (pv 0) (pa_cons pe_int pa_nil))) pa_nil)) (blkOk_by (N := n__law_basic) (sc := defScope s__law_basic) (by decide +kernel)) (fun _ _ _ _ _ => (pg_name (i := 4) sc__law_basic.nd rfl (.inl rfl))) (fun _ _ _ _ _ => pts_nil) (fun _ _ _ _ _ => (pe_call G1 hr1 (by rfl) D1.m D1.F.kp D1.b .nil pass0 (pa_cons (pv 0) (pa_cons pe_int pa_nil))))) pa_nil)))
      (pss_cons (ps_if (pt_cmpR op_lt (pe_callB call_len_seq (by rfl) T.z_len (by decide +kernel) (pa_cons (pv 3) pa_nil)) pe_int (nomark _))
      (pss_one (ps_ret (pe_ifExp (pt_cmpR (op_eqD hu64) (pv 3) (pe_tup pa_nil) (nomark _)) (pe_tup (pa_cons (pe_makeR0 MP GP hrP (by rfl) mP pass0) (pa_cons (pe_tup (pa_cons pe_str (pa_cons (pe_tup pa_nil) pa_nil))) pa_nil))) (pe_tup (pa_cons (pe_makeR MP GP hrP (by rfl) mP pass0 (pa_cons (pe_ix ix_tup (pv 3) pe_int (fun _ _ => rfl)) pa_nil)) (pa_cons (pe_tup (pa_cons pe_str (pa_cons (pv 3) pa_nil))) pa_nil))))))
      pss_nil)
      (pss_cons (ps_if (pt_cmpR op_eq (pe_callB call_len_seq (by rfl) T.z_len (by decide +kernel) (pa_cons (pv 3) pa_nil)) pe_int (nomark _))
      (pss_one (ps_ret (pe_tup (pa_cons (pe_makeR MP GP hrP (by rfl) mP pass0 (pa_cons (pe_ix ix_tup (pv 3) pe_int (fun _ _ => rfl)) (pa_cons (pe_ix ix_tup (pv 3) pe_int (fun _ _ => rfl)) pa_nil))) (pa_cons (pe_tup (pa_cons pe_str (pa_cons (pv 3) pa_nil))) pa_nil)))))
      pss_nil)
      (pss_cons (ps_if (pt_cmpR op_eq (pe_callB call_len_seq (by rfl) T.z_len (by decide +kernel) (pa_cons (pv 3) pa_nil)) pe_int (nomark _))
      (pss_one (ps_ret (pe_tup (pa_cons (pe_makeR MP GP hrP (by rfl) mP pass0 (pa_cons (pe_ix ix_tup (pv 3) pe_int (fun _ _ => rfl)) (pa_cons (pe_ix ix_tup (pv 3) pe_int (fun _ _ => rfl)) (pa_cons (pe_ix ix_tup (pv 3) pe_int (fun _ _ => rfl)) pa_nil)))) (pa_cons (pe_tup (pa_cons pe_str (pa_cons (pv 3) pa_nil))) pa_nil)))))
      pss_nil)
      (pss_one (ps_ret (pe_tup (pa_cons (pe_makeR MP GP hrP (by rfl) mP pass0 (pa_cons (pe_ix ix_tup (pv 3) pe_int (fun _ _ => rfl)) (pa_cons (pe_ix ix_tup (pv 3) pe_int (fun _ _ => rfl)) (pa_cons (pe_ix ix_tup (pv 3) pe_int (fun _ _ => rfl)) (pa_cons (pe_ix ix_tup (pv 3) pe_int (fun _ _ => rfl)) pa_nil))))) (pa_cons (pe_tup (pa_cons pe_str (pa_cons (pv 3) pa_nil))) pa_nil)))))))))))))), ?_⟩
  have fin : ∀ (H1 : Hp) (x : Addr) (d : RD) (s : V), Kp [D, L] H H1 → Deck H1 D L (n + 20) → RuleAt cO H1 x d → (∀ H' t, Same H1 H' → H' t = some (.tup [.str d.word, s]) → ToldAt H' t d) → ∀ t1, H1 t1 = none → ∀ t2, upd H1 t1 (.tup [.str d.word, s]) t2 = none → Q (.ref t2) (upd (upd H1 t1 (.tup [.str d.word, s])) t2 (.tup [.ref x, .ref t1])) := fun H1 x d s k dk hR hT t1 n1 t2 n2 => by
    have s1 := Same.up (o := HO.tup [.str d.word, s]) n1
    have s2 := Same.up (o := HO.tup [.ref x, .ref t1]) n2
    have s12 := Same.trans s1 s2
    exact q _ t2 x t1 d (k.trans (Kp.same s12)) (dk.sm s12) upd_same (hR.same s12) (hT _ _ s12 (s2 _ _ upd_same))
  have deck20 : ∀ {H1 : Hp} {m : Nat}, Deck H1 D L m → n + 20 ≥ m → Deck H1 D L (n + 20) := fun d h => d.mono h
  refine ⟨.ref D, rfl, D, L, _, 7, rfl, hD, by omega, by decide, by decide, fun H1 r k1 hD1 r0 r1 => ⟨_, rfl, rfl, _, rfl, ?_⟩⟩
  refine ite2 (fun h => ?_) (fun h => ?_)
  · refine fun x dx hx hdx ne => ⟨line1000 (Nat.le_of_ble_eq_true rfl), fun t1 n1 => ⟨line1000 (Nat.le_of_ble_eq_true rfl), fun t2 n2 => ?_⟩⟩
    have s1 := inst_same (C := cO .never) hx hdx ne
    exact fin _ x .never .non (k1.trans (Kp.same s1)) ((hD1.sm s1).mono (by omega)) ⟨dx, upd_same⟩ (fun _ _ _ h => h) t1 n1 t2 n2
  refine ⟨_, rfl, _, _, rfl, rfl, _, rfl, ?_⟩
  refine ite2 (fun h => ?_) (fun h => ?_)
  · refine fun x dx hx hdx ne => ⟨line1000 (Nat.le_of_ble_eq_true rfl), fun t1 n1 => ⟨line1000 (Nat.le_of_ble_eq_true rfl), fun t2 n2 => ?_⟩⟩
    have s1 := inst_same (C := cO .all) hx hdx ne
    exact fin _ x .all .non (k1.trans (Kp.same s1)) ((hD1.sm s1).mono (by omega)) ⟨dx, upd_same⟩ (fun _ _ _ h => h) t1 n1 t2 n2
  refine ⟨_, rfl, _, _, rfl, rfl, _, rfl, ?_⟩
  refine ite2 (fun h => ?_) (fun h => ?_)
  · refine fun x dx hx hdx ne => ⟨line1000 (Nat.le_of_ble_eq_true rfl), fun t1 n1 => ⟨line1000 (Nat.le_of_ble_eq_true rfl), fun t2 n2 => ?_⟩⟩
    have s1 := inst_same (C := cO .counting) hx hdx ne
    exact fin _ x .counting .non (k1.trans (Kp.same s1)) ((hD1.sm s1).mono (by omega)) ⟨dx, upd_same⟩ (fun _ _ _ h => h) t1 n1 t2 n2
  refine ⟨_, rfl, rfl, _, rfl, ?_⟩
  refine ite2 (fun h => ?_) (fun h => ?_)
  · refine ⟨.ref D, rfl, 1, rfl, line1000 (Nat.le_of_ble_eq_true rfl), fun q1 nq1 => ?_⟩
    have sq := Same.up (o := HO.lst [.int (-1), .int 0, .int 1, .int 2, .int 3, .int 4, .int (10 ^ 20)]) nq1
    have gq : upd H1 q1 (HO.lst [.int (-1), .int 0, .int 1, .int 2, .int 3, .int 4, .int (10 ^ 20)]) q1 = some (.lst [.int (-1), .int 0, .int 1, .int 2, .int 3, .int 4, .int (10 ^ 20)]) := upd_same
    have nqd : q1 ∉ [D, L] := by simpa using hD1.neD nq1
    have kq := k1.trans (Kp.same sq)
    have dq := hD1.sm sq
    generalize upd H1 q1 (HO.lst [.int (-1), .int 0, .int 1, .int 2, .int 3, .int 4, .int (10 ^ 20)]) = H2 at gq kq dq ⊢
    refine one_nats dq (by omega) gq nqd (by decide) (by decide) fun H3 y k3 d3 my => ?_
    obtain ⟨mo, rfl⟩ : ∃ mo : Int, y = .int mo := by
      simp only [List.mem_cons, List.not_mem_nil, or_false] at my
      rcases my with rfl | rfl | rfl | rfl | rfl | rfl | rfl <;> exact ⟨_, rfl⟩
    refine ⟨_, rfl, fun x dx hx hdx ne => ⟨x, dx, .int mo, rfl, upd_same, rfl, ?_⟩⟩
    have s1 := inst_fld (C := cO .above) (fs := [("_most", V.int mo)]) hx hdx ne
    have hR : RuleAt cO (upd (upd (upd H3 dx (.own x)) x (.ins (cO .above) dx [])) x (.ins (cO .above) dx [("_most", .int mo)])) x (.above mo) := ⟨dx, upd_same⟩
    generalize upd (upd (upd H3 dx (.own x)) x (.ins (cO .above) dx [])) x (.ins (cO .above) dx [("_most", .int mo)]) = H4 at s1 hR ⊢
    refine ⟨_, rfl, line1000 (Nat.le_of_ble_eq_true rfl), fun t1 n1 => ⟨line1000 (Nat.le_of_ble_eq_true rfl), fun t2 n2 => ?_⟩⟩
    exact fin _ x (.above mo) (.int mo) ((kq.trans k3).trans (Kp.same s1)) ((d3.sm s1).mono (by omega)) hR (fun _ _ _ h => h) t1 n1 t2 n2
  clear h
  refine ⟨.ref D, rfl, D, L, _, 5, rfl, hD1, by omega, by decide, by decide, fun H2 rr k2 hD2 rr0 rr1 => ⟨rr, rfl, by omega, by omega, fun N nN => ?_⟩⟩
  have nNd : N ∉ [D, L] := by simpa using hD2.neD nN
  refine lc_range (lo := 0) (n := rr.toNat) (GrowN (fun _ => True) D L N H2 (n + 2)) (GrowN.start hD2 nN) ?_ ?_
  · rintro i H4 hi g
    obtain ⟨_, cH, hD', _⟩ := id g
    refine ⟨rfl, .ref D, rfl, D, L, _, 24, rfl, hD', by omega, by decide, by decide, fun H5 y k5 d5 y0 y1 => ?_⟩
    obtain ⟨yn, rfl⟩ := Int.eq_ofNat_of_zero_le y0
    exact g.step (by omega) (deck_ch hD' d5 k5) d5 nNd trivial
  rintro H3 ⟨ys, cH, hD3, gN, lN, _⟩
  have ly : ys.length ≤ 4 := by omega
  have k3 := (k1.trans k2).trans (cH.less nN).kp
  have hD3 : Deck H3 D L (n + 20) := hD3.mono (by omega)
  refine ⟨N, _, rfl, .inl ⟨SqL.of gN, fun l nl => ?_⟩⟩
  have sl := Same.up (o := HO.tup (intsN ys)) nl
  have gl : upd H3 l (HO.tup (intsN ys)) l = some (.tup (intsN ys)) := upd_same
  have k4 := k3.trans (Kp.same sl)
  have hD4 := hD3.sm sl
  generalize upd H3 l (HO.tup (intsN ys)) = H4 at gl k4 hD4 ⊢
  clear sl nl gN hD3 k3 cH lN hD2 k2 nN nNd hD1 k1
  have pls : ∀ (x dx : Addr) (ps : List Nat) (H5 : Hp), Same H4 H5 → H5 x = none → H5 dx = none → dx ≠ x → ps.length ≤ 4 → ∀ (Z : VK),
      (∀ H6, Kp [D, L] H H6 → Deck H6 D L (n + 20) → RuleAt cO H6 x (.places ps) → Same H5 H6 → Z .non H6) →
      spPI (cO .places) (V.ref x :: intsN ps) (upd (upd H5 dx (.own x)) x (.ins (cO .places) dx [])) Z E0 := fun x dx ps H5 s5 hx hdx ne lp Z z => by
    refine ⟨[.ref x], intsN ps, rfl, rfl, Nat.le_of_lt (lt_line (by unfold intsN; rw [List.length_map]; omega)), fun p np => ⟨x, dx, .ref p, rfl, ?_, ?_⟩⟩
    · exact (inst_tup (C := cO .places) (vs := intsN ps) (fs := []) hx hdx ne np).2.2
    · obtain ⟨s6, g6, _⟩ := inst_tup (C := cO .places) (vs := intsN ps) (fs := [("_places", .ref p)]) hx hdx ne np
      have s56 := Same.trans s5 s6
      exact z _ (k4.trans (Kp.same s56)) (hD4.sm s56) ⟨dx, p, upd_same, g6⟩ s6
  match ys, ly, gl with
  | [], _, gl => 
    refine ⟨_, rfl, l, _, rfl, .inr (SqT.of gl), _, _, rfl, rfl, _, rfl, iteT ⟨_, rfl, Nat.zero_le _, fun e0 ne0 => ?_⟩⟩
    have sE := Same.up (o := HO.tup []) ne0
    refine ⟨.tuple [], .tuple [], .tup (SqT.of (sE _ _ gl)) .nil, .tup (SqT.of upd_same) .nil, by decide +kernel, by decide +kernel, _, rfl, iteT ?_⟩
    refine fun x dx hx hdx ne => pls x dx [] _ sE hx hdx ne (by simp) _ fun H6 k6 d6 hR s6 => ⟨rfl, Nat.zero_le _, fun l0 nl0 => ⟨line1000 (Nat.le_of_ble_eq_true rfl), fun t1 n1 => ⟨line1000 (Nat.le_of_ble_eq_true rfl), fun t2 n2 => ?_⟩⟩⟩
    have s0 := Same.up (o := HO.tup []) nl0
    exact fin _ x (.places []) (.ref l0) (k6.trans (Kp.same s0)) (d6.sm s0) (hR.same s0) (fun H' t s h => ⟨l0, h, s _ _ upd_same⟩) t1 n1 t2 n2
  | [a], _, gl =>
    refine ⟨_, rfl, l, _, rfl, .inr (SqT.of gl), _, _, rfl, rfl, _, rfl, iteT ⟨_, rfl, Nat.zero_le _, fun e0 ne0 => ?_⟩⟩
    have sE := Same.up (o := HO.tup []) ne0
    have gl2 := sE _ _ gl
    refine ⟨.tuple (intD [a]), .tuple [], .tup (SqT.of gl2) (ints_dp [a]), .tup (SqT.of upd_same) .nil, shaped_intsT _, by decide +kernel, _, rfl, ?_⟩
    rw [eqv_nilT]
    refine iteF ⟨_, rfl, l, _, _, _, rfl, rfl, SqT.of gl2, atI_nat (j := 0) rfl, fun x dx hx hdx ne => pls x dx [a] _ sE hx hdx ne (by simp) _ fun H6 k6 d6 hR s6 => ⟨rfl, _, rfl, line1000 (Nat.le_of_ble_eq_true rfl), fun t1 n1 => ⟨line1000 (Nat.le_of_ble_eq_true rfl), fun t2 n2 => fin _ x (.places [a]) (.ref l) k6 d6 hR (fun H' t s h => ⟨l, h, s _ _ (s6 _ _ gl2)⟩) t1 n1 t2 n2⟩⟩⟩
  | [a, b], _, gl =>
    refine ⟨_, rfl, l, _, rfl, .inr (SqT.of gl), _, _, rfl, rfl, _, rfl, iteF ?_⟩
    refine ⟨_, rfl, l, _, rfl, .inr (SqT.of gl), rfl, _, rfl, iteT ⟨_, rfl, l, _, _, _, rfl, rfl, SqT.of gl, atI_nat (j := 0) rfl, _, rfl, l, _, _, _, rfl, rfl, SqT.of gl, atI_nat (j := 1) rfl, fun x dx hx hdx ne => pls x dx [a, b] _ (fun _ _ h => h) hx hdx ne (by simp) _ fun H6 k6 d6 hR s6 => ⟨rfl, _, rfl, line1000 (Nat.le_of_ble_eq_true rfl), fun t1 n1 => ⟨line1000 (Nat.le_of_ble_eq_true rfl), fun t2 n2 => fin _ x (.places [a, b]) (.ref l) k6 d6 hR (fun H' t s h => ⟨l, h, s _ _ (s6 _ _ gl)⟩) t1 n1 t2 n2⟩⟩⟩⟩
  | [a, b, c], _, gl =>
    refine ⟨_, rfl, l, _, rfl, .inr (SqT.of gl), _, _, rfl, rfl, _, rfl, iteF ?_⟩
    refine ⟨_, rfl, l, _, rfl, .inr (SqT.of gl), rfl, _, rfl, iteF ?_⟩
    refine ⟨_, rfl, l, _, rfl, .inr (SqT.of gl), rfl, _, rfl, iteT ⟨_, rfl, l, _, _, _, rfl, rfl, SqT.of gl, atI_nat (j := 0) rfl, _, rfl, l, _, _, _, rfl, rfl, SqT.of gl, atI_nat (j := 1) rfl, _, rfl, l, _, _, _, rfl, rfl, SqT.of gl, atI_nat (j := 2) rfl, fun x dx hx hdx ne => pls x dx [a, b, c] _ (fun _ _ h => h) hx hdx ne (by simp) _ fun H6 k6 d6 hR s6 => ⟨rfl, _, rfl, line1000 (Nat.le_of_ble_eq_true rfl), fun t1 n1 => ⟨line1000 (Nat.le_of_ble_eq_true rfl), fun t2 n2 => fin _ x (.places [a, b, c]) (.ref l) k6 d6 hR (fun H' t s h => ⟨l, h, s _ _ (s6 _ _ gl)⟩) t1 n1 t2 n2⟩⟩⟩⟩
  | [a, b, c, d], _, gl =>
    refine ⟨_, rfl, l, _, rfl, .inr (SqT.of gl), _, _, rfl, rfl, _, rfl, iteF ?_⟩
    refine ⟨_, rfl, l, _, rfl, .inr (SqT.of gl), rfl, _, rfl, iteF ?_⟩
    refine ⟨_, rfl, l, _, rfl, .inr (SqT.of gl), rfl, _, rfl, iteF ?_⟩
    refine ⟨_, rfl, l, _, _, _, rfl, rfl, SqT.of gl, atI_nat (j := 0) rfl, _, rfl, l, _, _, _, rfl, rfl, SqT.of gl, atI_nat (j := 1) rfl, _, rfl, l, _, _, _, rfl, rfl, SqT.of gl, atI_nat (j := 2) rfl, _, rfl, l, _, _, _, rfl, rfl, SqT.of gl, atI_nat (j := 3) rfl, fun x dx hx hdx ne => pls x dx [a, b, c, d] _ (fun _ _ h => h) hx hdx ne (by simp) _ fun H6 k6 d6 hR s6 => ⟨rfl, _, rfl, line1000 (Nat.le_of_ble_eq_true rfl), fun t1 n1 => ⟨line1000 (Nat.le_of_ble_eq_true rfl), fun t2 n2 => fin _ x (.places [a, b, c, d]) (.ref l) k6 d6 hR (fun H' t s h => ⟨l, h, s _ _ (s6 _ _ gl)⟩) t1 n1 t2 n2⟩⟩⟩
  | a :: b :: c :: d :: e :: r, ly, _ => exact absurd ly (by simp)
end
end G

set_option Elab.async false
set_option linter.all false
set_option maxRecDepth 100000
set_option maxHeartbeats 8000000
/-! Views that may be printed; what a rule names is one tuple. -/
namespace G
open PySem PySem.Spec PyProof.Rows L2 StX
mutual
theorem TD.dp {K : PySem.W.Frag} {H : Hp} : ∀ (d : PyData) (v : V), TD H v d → Dp K H v d
  | .none, _, h => by cases h; exact .non
  | .bool b, _, h => by cases h; exact .bl b
  | .int i, _, h => by cases h; exact .int i
  | .str x, _, h => by cases h; exact .str x
  | .list ds, _, h => nomatch h
  | .tuple ds, _, h => by
    cases h with
    | tup h1 h2 => exact .tup (SqT.of h1) (TDs.dp ds _ h2)
  | .dict _, _, h => nomatch h
theorem TDs.dp {K : PySem.W.Frag} {H : Hp} : ∀ (ds : List PyData) (vs : List V), TDs H vs ds → DpAll K H vs ds
  | [], _, h => by cases h; exact .nil
  | d :: ds, _, h => by
    cases h with
    | cons h1 h2 => exact .cons (TD.dp d _ h1) (TDs.dp ds _ h2)
end
/-! ### the items' bounds -/
structure ShowyS (ds : List PyData) (p n : Nat) : Prop where
  s : PyData.showableAll ds = true
  h : PyData.hasDictAll ds = false
  o : OkDs ds
  p : PyData.depthAll ds ≤ p
  b : bigs ds ≤ n
structure ShowyP (d : PyData) (p n : Nat) : Prop where
  s : d.showable = true
  h : d.hasDict = false
  o : OkD d
  p : d.depth ≤ p
  b : big d ≤ n
theorem ShowyS.nil {p : Nat} : ShowyS [] p 0 := ⟨rfl, rfl, trivial, Nat.zero_le _, Nat.zero_le _⟩
theorem ShowyS.cons {d : PyData} {ds : List PyData} {p n m : Nat} (a : ShowyP d p n) (b : ShowyS ds p m) : ShowyS (d :: ds) p (n + 2 + m) := by
  have a4 := a.p
  have a5 := a.b
  have b4 := b.p
  have b5 := b.b
  refine ⟨?_, ?_, ⟨a.o, b.o⟩, ?_, ?_⟩
  · simp only [PyData.showableAll, a.s, b.s, Bool.and_self]
  · simp only [PyData.hasDictAll, a.h, b.h, Bool.or_self]
  · simp only [PyData.depthAll]
    omega
  · simp only [bigs]
    omega
theorem ShowyS.tup {ds : List PyData} {p n : Nat} (a : ShowyS ds p n) : ShowyP (.tuple ds) (p + 1) (n + 4) :=
  ⟨a.s, a.h, a.o, Nat.add_le_add_right a.p 1, Nat.add_le_add_right a.b 4⟩
theorem ShowyP.mono {d : PyData} {p n p' n' : Nat} (a : ShowyP d p n) (hp : p ≤ p') (hn : n ≤ n') : ShowyP d p' n' := ⟨a.s, a.h, a.o, Nat.le_trans a.p hp, Nat.le_trans a.b hn⟩
theorem ShowyS.mono {d : List PyData} {p n p' n' : Nat} (a : ShowyS d p n) (hp : p ≤ p') (hn : n ≤ n') : ShowyS d p' n' := ⟨a.s, a.h, a.o, Nat.le_trans a.p hp, Nat.le_trans a.b hn⟩
theorem showy_intG {i : Int} (h : i.natAbs.log2 < 1920) (p : Nat) : ShowyP (.int i) p 1921 := ⟨decide_eq_true h, rfl, trivial, Nat.zero_le _, int_text_len_1921 h⟩
theorem log_small {i : Int} {n : Nat} (h : i.natAbs ≤ n) (hn : n.log2 < 1920) : i.natAbs.log2 < 1920 := by
  by_cases z : i.natAbs = 0
  · rw [z]; decide
  · exact Nat.lt_of_le_of_lt ((Nat.le_log2 (by omega)).mpr (Nat.le_trans (Nat.log2_self_le z) h)) hn
theorem showy_bool (b : Bool) (p : Nat) : ShowyP (.bool b) p 5 := ⟨rfl, rfl, trivial, Nat.zero_le _, Nat.le_refl _⟩
theorem showy_none (p : Nat) : ShowyP .none p 4 := ⟨rfl, rfl, trivial, Nat.zero_le _, Nat.le_refl _⟩
/-! ### repr -/
def rRp (K : PySem.W.Frag) : List V → Hp → VK → Prop := fun vs H Q => ∃ (v : V) (d : PyData), vs = [v] ∧ Dp K H v d ∧ ShowyP d 100 16000000 ∧ Q (.str d.shown) H
theorem call_rpP {X : Cx} (hg : X.A.guards = some []) (hu : X.A.units + 101 < cLine) : CallR X (.builtin "repr") (rRp X.K) := by
  intro pins s σ H vs us Q I r h
  obtain ⟨v, d, ev, hd, ⟨h1, h2, h3, h4, h5⟩, q⟩ := h
  exact call_reprD hg hu pins s σ H vs us Q I r ⟨v, d, ev, hd, h1, h2, h4, Nat.le_trans (shown_le d h3) (Nat.le_trans h5 (by rw [sizeLine_eq]; decide)), q⟩
theorem log90 {i : Nat} (h : i < 90) : ((i : Nat) : Int).natAbs.log2 < 1920 := Nat.lt_of_le_of_lt (Nat.log2_le_self _) (by omega)
theorem showy_ints : ∀ (l : List Nat), (∀ x ∈ l, x < 90) → ShowyS (intD l) 0 (1923 * l.length)
  | [], _ => .nil
  | x :: r, h => by
    have a := showy_intG (log90 (h x (List.mem_cons_self ..))) 0
    refine (ShowyS.cons a (showy_ints r fun y hy => h y (List.mem_cons_of_mem _ hy))).mono (Nat.le_refl _) ?_
    rw [List.length_cons]
    omega
theorem showy_row {r : VR} (hc : r.c < 90) (hl : r.hs.length ≤ 8) (hh : ∀ x ∈ r.hs, x < 90) : ShowyP r.data 2 20000 := by
  have a := (showy_ints r.hs hh).tup
  refine (ShowyS.cons (showy_intG (log90 hc) 1) (ShowyS.cons (showy_bool r.st 1) (ShowyS.cons (showy_bool r.re 1) (ShowyS.cons a .nil)))).tup.mono (Nat.le_refl _) ?_
  omega
theorem showy_rows : ∀ (l : List VR), (∀ r ∈ l, r.c < 90 ∧ r.hs.length ≤ 8 ∧ ∀ x ∈ r.hs, x < 90) → ShowyS (l.map VR.data) 2 (20002 * l.length)
  | [], _ => .nil
  | r :: l, h => by
    obtain ⟨h1, h2, h3⟩ := h r (List.mem_cons_self ..)
    refine (ShowyS.cons (showy_row h1 h2 h3) (showy_rows l fun y hy => h y (List.mem_cons_of_mem _ hy))).mono (Nat.le_refl _) ?_
    rw [List.length_cons]
    omega
theorem showy_view {m p : Nat} {rows : List VR} (hm : m < 90) (hp : p < 24) (gv : GoodV rows) (hc : ∀ r ∈ rows, r.c ≤ 30) : ShowyP (viewD (m : Int) (p : Int) rows) 100 16000000 := by
  have l8 := gv.len
  have cell : ∀ x ∈ rows.map VR.c, x < 90 := fun x hx => by
    obtain ⟨r, hr, rfl⟩ := List.mem_map.mp hx
    have := hc r hr
    omega
  have a := (showy_rows rows fun r hr => ⟨by have := hc r hr; omega, by
    obtain ⟨h1, h2⟩ := gv.hs r hr
    have := nd_len rows.length (m := rows.map VR.c) (List.length_map _) h1 h2
    omega, fun x hx => cell x ((gv.hs r hr).2 x hx)⟩).tup
  refine (ShowyS.cons (showy_intG (log90 hm) 3) (ShowyS.cons (showy_intG (log90 (by omega : p < 90)) 3) (ShowyS.cons a .nil))).tup.mono (by decide) ?_
  omega
theorem cnt_cell {rows : List VR} {c : Nat} (h : Cnt rows c) : c ∈ rows.map VR.c := by
  cases h with
  | mk r hr _ _ => exact List.mem_map.mpr ⟨r, hr, rfl⟩
theorem named_fine {p : Int} {rows : List VR} (gv : GoodV rows) : ∀ {d : RD} {zs : List Nat}, NamedBy p rows d zs → zs.length ≤ 8 ∧ ∀ z ∈ zs, z ∈ rows.map VR.c := by
  have l8 := gv.len
  have un : (unre rows).length ≤ 8 ∧ ∀ z ∈ unre rows, z ∈ rows.map VR.c := by
    refine ⟨?_, fun z hz => ?_⟩
    · unfold unre
      rw [List.length_map]
      have := List.length_filter_le (fun r => !r.re) rows
      omega
    · unfold unre at hz
      obtain ⟨r, hr, rfl⟩ := List.mem_map.mp hz
      exact List.mem_map.mpr ⟨r, (List.mem_filter.mp hr).1, rfl⟩
  have nil : ([] : List Nat).length ≤ 8 ∧ ∀ z ∈ ([] : List Nat), z ∈ rows.map VR.c := ⟨Nat.zero_le _, fun _ z => nomatch z⟩
  intro d zs h
  cases d with
  | never => rw [show zs = [] from h]; exact nil
  | all => rw [show zs = unre rows from h]; exact un
  | counting =>
    obtain ⟨_, nd, hz⟩ := h
    have sub : ∀ z ∈ zs, z ∈ rows.map VR.c := fun z m => cnt_cell ((hz z).mp m)
    have := nd_len rows.length (m := rows.map VR.c) (List.length_map _) nd sub
    exact ⟨by omega, sub⟩
  | above mo =>
    rw [show zs = if mo < (rows.length : Int) then unre rows else [] from h]
    split
    · exact un
    · exact nil
  | places ps =>
    rw [show zs = if p ∈ ps.map (fun (c : Nat) => (c : Int)) then unre rows else [] from h]
    split
    · exact un
    · exact nil
theorem named_uniq {p : Int} {rows : List VR} : ∀ {d : RD} {zs ys : List Nat}, NamedBy p rows d zs → NamedBy p rows d ys → zs = ys := by
  intro d zs ys h g
  cases d with
  | never => rw [show zs = [] from h, show ys = [] from g]
  | all => rw [show zs = unre rows from h, show ys = unre rows from g]
  | counting =>
    obtain ⟨p1, n1, h1⟩ := h
    obtain ⟨p2, n2, h2⟩ := g
    have pm : zs.Perm ys := (List.perm_ext_iff_of_nodup n1 n2).mpr fun c => (h1 c).trans (h2 c).symm
    exact List.Perm.eq_of_pairwise (fun a b _ _ h1 h2 => Nat.le_antisymm h1 h2) p1 p2 pm
  | above mo => rw [show zs = if mo < (rows.length : Int) then unre rows else [] from h, show ys = if mo < (rows.length : Int) then unre rows else [] from g]
  | places ps => rw [show zs = if p ∈ ps.map (fun (c : Nat) => (c : Int)) then unre rows else [] from h, show ys = if p ∈ ps.map (fun (c : Nat) => (c : Int)) then unre rows else [] from g]
theorem showy_names {p : Int} {rows : List VR} {d : RD} {zs : List Nat} (gv : GoodV rows) (hc : ∀ r ∈ rows, r.c ≤ 30) (h : NamedBy p rows d zs) : ShowyP (.tuple (intD zs)) 100 16000000 := by
  obtain ⟨l, hz⟩ := named_fine gv h
  refine (showy_ints zs fun x hx => ?_).tup.mono (by decide) (by omega)
  obtain ⟨r, hr, rfl⟩ := List.mem_map.mp (hz x hx)
  have := hc r hr
  omega
end G

set_option Elab.async false
set_option linter.all false
set_option maxRecDepth 100000
set_option maxHeartbeats 4000000
/-! Operators of own classes: x op y, both instances; the right class may be under the left one. -/
namespace G
open PySem PySem.W PySem.Calls PyProof.Rows
section
variable {α : Type} {prog : Program} {w : World} {A : Around} {E : Value → Shared → Prop} {s : Shared} {K : Frag}
def Grown (h h' : Heap) : Prop := ∀ (b : Addr) (o : Obj), h.get? b = some o → h'.get? b = some o
theorem raise_ae {msg : Str} {Q : α → Shared → Prop} (hh : A.handled = none) (hm : msg.length ≤ sizeLine)
    (h : ∀ h' tk e o, Grown s.heap h' → h'.get? e = some o → o.cls = .type "AttributeError" → E (.ref e) { s with heap := h', toks := tk }) : wpAny (model prog w) A (raiseErrorStr "AttributeError" msg : Sem α) Q E s := by
  unfold raiseErrorStr
  refine wpAny_bind (wpAny_mkStr (wpAny_bind ?_) hm)
  unfold newExc newTuple
  refine wpAny_bind (wpAny_newObj_type ?_ (by size_fits))
  refine wpAny_bind (m := firstArgMember _ _) (wpAny_of_eq (a := Value.none) (by simp only [firstArgMember, attrError_no_first]; rfl) ?_)
  rw [ownMembersOf_AttributeError]
  refine wpAny_newObj_type ?_ (by size_fits)
  unfold raiseNew
  refine wpAny_bind (wpAny_handled ?_)
  rw [hh]
  first
    | refine wpAny_throw ?_
    | refine wpAny_bind (wpAny_pure (wpAny_throw ?_))
  exact h _ _ _ _ (fun b o hb => Heap.get?_push_of_some _ (Heap.get?_push_of_some _ hb)) (Heap.get?_push_size _ rfl) rfl
theorem tga_miss {c : Addr} {cd : ClassData} {name : Str} {tk : Tok} {Q : Fin → Shared → Prop} (X : K.In s.heap) (hh : A.handled = none) (ho : nsIn K cStatics "thirdparty.any" = some none) (ht : typeIn K (.ref c) = some (.type "type"))
    (h1 : findIn K (.type "type") name = some none) (h2 : findIn K (.ref c) name = some none) (hc : clsIn K c = some cd) (hl : cd.name.cps.foldl (fun k c => k + (Str.utf8Of c).length) 0 ≤ 100)
    (hm : ((Str.ofString (toString "type object '" ++ toString cd.name.toString ++ toString "' has no attribute '") : Str) ++ name ++ Str.ofString "'").length ≤ sizeLine)
    (h : ∀ h' tk e o, Grown s.heap h' → h'.get? e = some o → o.cls = .type "AttributeError" → E (.ref e) { s with heap := h', toks := tk }) : wpAny (model prog w) A (Builtin.«type.__getattribute__» ⟨[.ref c, .str name tk], []⟩) Q E s := by
  have Lo : Looks (model prog w) s.heap (opaqueClassAbove (.ref c)) none := looks_opaque X ho
  have Lt : Looks (model prog w) s.heap (typeOf (.ref c)) (.type "type") := looks_typeIn X ht
  have L1 : Looks (model prog w) s.heap (typeLookup (.type "type") name) none := looks_findIn X h1
  have L2 : Looks (model prog w) s.heap (typeLookup (.ref c) name) none := looks_findIn X h2
  have L3 : Looks (model prog w) s.heap (classData c) cd := looks_clsIn X hc
  unfold Builtin.«type.__getattribute__»
  refine wpAny_bind (wpAny_pure (wpAny_bind (Lo.at (wpAny_bind (Lt.at (wpAny_bind (L1.at ?_)))))))
  refine wpAny_bind (wpAny_pure ?_)
  refine wpAny_bind (L2.at ?_)
  refine wpAny_bind (wpAny_rule ?_)
  refine wpAny_bind (m := typeNameCut 100 (.ref c)) ?_
  unfold typeNameCut
  refine wpAny_bind (L3.at ?_)
  rw [if_pos hl]
  refine wpAny_pure ?_
  exact raise_ae hh hm h
end
end G

set_option Elab.async false
set_option linter.all false
set_option maxRecDepth 100000
set_option maxHeartbeats 4000000
namespace G
open PySem PySem.W PySem.Calls PyProof.Rows
/-- a class that has no such attribute -/
structure MissA (K : Frag) (c : Addr) (name : Str) : Prop where
  op : nsIn K cStatics "thirdparty.any" = some none
  ty : typeIn K (.ref c) = some (.type "type")
  h1 : findIn K (.type "type") name = some none
  h2 : findIn K (.ref c) name = some none
  nm : ∃ cd, clsIn K c = some cd ∧ cd.name.cps.foldl (fun k c => k + (Str.utf8Of c).length) 0 ≤ 100 ∧ ((Str.ofString (toString "type object '" ++ toString cd.name.toString ++ toString "' has no attribute '") : Str) ++ name ++ Str.ofString "'").length ≤ sizeLine
section
variable {α : Type} {prog : Program} {w : World} {A : Around} {E : Value → Shared → Prop} {s : Shared} {K : Frag}
theorem is_ae {e : Addr} {o : Obj} {Q : Bool → Shared → Prop} (he : s.heap.get? e = some o) (hc : o.cls = .type "AttributeError") (h : Q true s) : wpAny (model prog w) A (isInstance (.ref e) (.type "AttributeError")) Q E s :=
  wpAny_isInstance (b := true) ⟨o, he, hc⟩ sub_AttributeError h
theorem cls_miss {c : Addr} {name : Str} {tk : Tok} {Q : Option Value → Shared → Prop} (X : K.In s.heap) (hh : A.handled = none) (M : MissA K c name)
    (h : ∀ h' t', Grown s.heap h' → Q none { s with heap := h', toks := t' }) : wpAny (model prog w) A (getAttrBy? (.ref c) (.str name tk)) Q E s := by
  obtain ⟨cd, hc, hl, hm⟩ := M.nm
  have Lt : Looks (model prog w) s.heap (typeOf (.ref c)) (.type "type") := looks_typeIn X M.ty
  have Lg : Looks (model prog w) s.heap (typeLookup (.type "type") "__getattribute__") (some (.builtin "type.__getattribute__")) := looks_findIn X type_tga
  unfold getAttrBy?
  refine wpAny_bind (wpAny_attempt ?_)
  unfold getAttrBy
  refine wpAny_holding (wpAny_bind (Lt.at (wpAny_bind (Lg.at ?_))))
  dsimp only
  rw [show (onTheHeap (.type "type") && Value.builtin "type.__getattribute__" == Value.builtin "object.__getattribute__") = false from rfl, if_neg (by decide)]
  unfold getAttrByItsOwn
  refine wpAny_bind (m := hookBefore (.type "type")) ?_
  unfold hookBefore
  rw [if_neg (by decide)]
  refine wpAny_pure ?_
  refine wpAny_bind (wpAny_attempt (wpAny_holding ?_))
  unfold callGetattribute
  rw [if_neg (by decide)]
  unfold boundAndCalled
  rw [KF.slot_tga.bind]
  refine wpAny_bind (wpAny_pure ?_)
  show wpAny _ _ (call (.builtin "type.__getattribute__") [.ref c, .str name tk]) _ _ _
  refine wpAny_call ?_
  refine codeAny_call_builtin KF.slot_tga.plain KF.entry_tga ?_
  refine @check_slot (model prog w) _ _ s "type.__getattribute__" "type" "__getattribute__" (.ref c) [.str name tk] [] _ (by decide +kernel) (by decide +kernel) (Lt.andThen .now) (KF.args_tga (.ref c) (.str name tk)) ?_
  refine tga_miss X hh M.op M.ty M.h1 M.h2 hc hl hm ?_
  intro h' t' e o gr he ho
  show wpAny (model prog w) A (getattributeRaised (.ref c) (.str name tk) (.type "type") (.ref e) none false false) _ _ _
  unfold getattributeRaised
  refine wpAny_bind (is_ae (s := { s with heap := h', toks := t' }) he ho ?_)
  rw [if_pos rfl]
  refine wpAny_bind (m := hookBehind (.type "type") none) ?_
  unfold hookBehind
  rw [if_neg (by decide)]
  have Lh : Looks (model prog w) h' (typeLookup (.type "type") "__getattr__") none := looks_findIn (K := []) (fun _ _ z => nomatch z) (by decide +kernel)
  refine Lh.at ?_
  unfold hookOrError attributeErrorLeaves
  dsimp only
  rw [if_pos (show (!false) = true from rfl)]
  refine wpAny_bind (wpAny_throw ?_)
  refine wpAny_bind (is_ae (s := { s with heap := h', toks := t' }) he ho ?_)
  rw [if_pos rfl]
  exact wpAny_pure (h h' t' gr)
theorem inst_grown {h h' : Heap} {x C : Addr} {ox : Obj} {od : Option Obj} (I : InstAt h x ox C od) (g : Grown h h') : InstAt h' x ox C od := by
  refine ⟨g _ _ I.at_, I.cls, I.no, ?_⟩
  have d := I.dict
  cases e : ox.dict with
  | none =>
    cases od with
    | none => trivial
    | some o => rw [e] at d; exact d.elim
  | some dx =>
    cases od with
    | none => rw [e] at d; exact d.elim
    | some o => rw [e] at d; exact g _ _ d
/-- the class of x op y: its operator, no reflected one -/
structure BinC (K : Frag) (C f : Addr) (nm : String) : Prop where
  self : selfFirst K C = true
  at_ : findIn K (.ref C) (PySem.dunder nm) = some (some (.ref f))
  fn : isFn K (.ref f) = true
  re : findIn K (.ref C) (dunderR nm) = some none
  ms : MissA K C (dunderR nm)
theorem refl_none {C C2 f f2 : Addr} {nm : String} {Q : Bool → Shared → Prop} (X : K.In s.heap) (hh : A.handled = none) (c : BinC K C f nm) (c2 : BinC K C2 f2 nm) (hl : (dunderR nm).length ≤ sizeLine)
    (h : ∀ h' t', Grown s.heap h' → Q false { s with heap := h', toks := t' }) : wpAny (model prog w) A (reflectedDiffers (.ref C) (.ref C2) nm) Q E s := by
  have L1 : Looks (model prog w) s.heap (numberSlotInPython (.ref C) nm) true := ksp_inPy X c.at_ c.re (.inl rfl)
  have L2 : Looks (model prog w) s.heap (numberSlotInPython (.ref C2) nm) true := ksp_inPy X c2.at_ c2.re (.inl rfl)
  unfold reflectedDiffers
  refine wpAny_bind (L1.at ?_)
  rw [if_neg (by decide)]
  refine wpAny_bind (L2.at ?_)
  rw [if_neg (by decide)]
  refine wpAny_bind (wpAny_mkStr ?_ hl)
  refine wpAny_bind (cls_miss (s := { s with toks := s.toks + 1 }) X hh c2.ms fun h' t' g => ?_)
  exact wpAny_pure (h h' t' g)
theorem bin_own {x y C C2 f f2 : Addr} {ox oy : Obj} {od od2 : Option Obj} {op : Operator} {b : Bool} {Q : Value → Shared → Prop} (X : K.In s.heap) (I : InstAt s.heap x ox C od) (J : InstAt s.heap y oy C2 od2) (hh : A.handled = none)
    (c : BinC K C f op.info.2) (c2 : BinC K C2 f2 op.info.2) (hsub : subIn K (.ref C2) (.ref C) = some b) (hl : (dunderR op.info.2).length ≤ sizeLine)
    (h : ∀ h' t', Grown s.heap h' → wpAny (model prog w) A (call (.ref f) [.ref x, .ref y]) (W.CmpBack Q) E { s with heap := h', toks := t' }) : wpAny (model prog w) A (binaryOp op (.ref x) (.ref y)) Q E s := by
  obtain ⟨cd, rest, hcd, hm⟩ := ksp_first c.self
  obtain ⟨cd2, rest2, hcd2, hm2⟩ := ksp_first c2.self
  have X0 := X
  have one : ∀ (h' : Heap) (t' : Nat), Grown s.heap h' → wpAny (model prog w) A (tryMethod (.ref x) (PySem.dunder op.info.2) (.ref y)) (fun r s' => ∃ v, r = some v ∧ Q v s') E { s with heap := h', toks := t' } := fun h' t' g => by
    obtain ⟨ox', od', I'⟩ : ∃ ox' od', InstAt h' x ox' C od' := ⟨_, _, inst_grown I g⟩
    exact ksp_try (s := { s with heap := h', toks := t' }) (X.keeps g) I' c.at_ c.fn (h h' t' g)
  rcases hi : op.info with ⟨sym, nm⟩
  rw [hi] at c c2 hl one
  dsimp only at c c2 hl one
  by_cases hCC : C = C2
  · subst hCC
    have L1 : Looks (model prog w) s.heap (typeOf (.ref x)) (.ref C) := I.type
    have L2 : Looks (model prog w) s.heap (typeOf (.ref y)) (.ref C) := J.type
    have L3 : Looks (model prog w) s.heap (fillsNumberSlot (.ref C) nm) true := fills_K X hcd hm c.at_
    unfold binaryOp
    rw [hi]
    refine wpAny_holding ?_
    dsimp only
    refine wpAny_bind ?_
    unfold binaryOp1
    dsimp only
    refine wpAny_bind (L1.at (wpAny_bind (L2.at (wpAny_bind (L3.at ?_)))))
    rw [show (Value.ref C == Value.ref C) = true from beq_self_eq_true _, if_pos rfl]
    refine wpAny_bind (wpAny_pure ?_)
    rw [if_neg (by decide), if_neg (by decide), if_neg (by decide)]
    refine wpAny_bind (wpAny_pure ?_)
    rw [if_neg (by decide), if_pos rfl]
    refine wpAny_bind (wpAny_mono (one s.heap s.toks (fun _ _ z => z)) (fun r s' ⟨v, er, hq⟩ => ?_) (fun _ _ z => z))
    subst er
    exact wpAny_pure (wpAny_pure hq)
  have hne : (Value.ref C == Value.ref C2) = false := Bool.eq_false_iff.mpr fun q => by cases beq_iff_eq.mp q; exact hCC rfl
  have L1 : Looks (model prog w) s.heap (typeOf (.ref x)) (.ref C) := I.type
  have L2 : Looks (model prog w) s.heap (typeOf (.ref y)) (.ref C2) := J.type
  have L3 : Looks (model prog w) s.heap (fillsNumberSlot (.ref C) nm) true := fills_K X hcd hm c.at_
  have L4 : Looks (model prog w) s.heap (fillsNumberSlot (.ref C2) nm) true := fills_K X hcd2 hm2 c2.at_
  have L5 : Looks (model prog w) s.heap (isSubtype (.ref C2) (.ref C)) b := looks_subIn X hsub
  have L6 : Looks (model prog w) s.heap (numberSlotInPython (.ref C) nm) true := ksp_inPy X c.at_ c.re (.inl rfl)
  have L7 : Looks (model prog w) s.heap (numberSlotInPython (.ref C2) nm) true := ksp_inPy X c2.at_ c2.re (.inl rfl)
  unfold binaryOp
  rw [hi]
  refine wpAny_holding ?_
  dsimp only
  refine wpAny_bind ?_
  unfold binaryOp1
  dsimp only
  refine wpAny_bind (L1.at (wpAny_bind (L2.at (wpAny_bind (L3.at ?_)))))
  rw [hne, if_neg (by decide)]
  refine wpAny_bind (L4.at ?_)
  rw [if_pos (show (true && true) = true from rfl)]
  refine wpAny_bind (L5.at ?_)
  cases b with
  | false =>
    rw [if_neg (by decide)]
    rw [if_neg (by decide), if_pos (show (true && true && !false) = true from rfl)]
    refine wpAny_bind ((L6.keeps (fun _ _ z => z)).at ?_)
    rw [if_pos rfl]
    refine wpAny_bind ((L7.keeps (fun _ _ z => z)).at ?_)
    rw [if_neg (by decide), if_pos rfl]
    refine wpAny_bind (wpAny_mono (one s.heap s.toks (fun _ _ z => z)) (fun r s' ⟨v, er, hq⟩ => ?_) (fun _ _ z => z))
    subst er
    exact wpAny_pure (wpAny_pure hq)
  | true =>
    rw [if_pos rfl]
    refine wpAny_bind (refl_none X hh c c2 hl fun h' t' g => ?_)
    rw [if_neg (by decide), if_pos (show (true && true && !false) = true from rfl)]
    refine wpAny_bind ((L6.keeps g).at ?_)
    rw [if_pos rfl]
    refine wpAny_bind ((L7.keeps g).at ?_)
    rw [if_neg (by decide), if_pos rfl]
    refine wpAny_bind (wpAny_mono (one h' t' g) (fun r s' ⟨v, er, hq⟩ => ?_) (fun _ _ z => z))
    subst er
    exact wpAny_pure (wpAny_pure hq)
end
end G

set_option Elab.async false
set_option linter.all false
set_option maxRecDepth 100000
set_option maxHeartbeats 4000000
/-! x | y, y's class under x's: the classes' own __ror__ (of type) is met. -/
namespace G
open PySem PySem.W PySem.Calls PyProof.Rows PyProof.V PySem.Spec
abbrev mwI : String := "type.__ror__"
theorem nac_ror : (kfb_private% "nameAndClass") (.builtin mwI) = pure (PySem.Str.ofString "__ror__", .type "type") := by first | kernel_rfl | rfl
theorem typ_ror : typeOf (.builtin mwI) = pure (.type "wrapper_descriptor") := by show builtinType _ = _; rw [builtinType_eq_fast]; kernel_rfl
section
variable {α : Type} {prog : Program} {w : World} {A : Around} {E : Value → Shared → Prop} {s : Shared} {K : Frag}
theorem run_get2 {M : Model} {c : Addr} (hI : Looks M s.heap (isInstance (.ref c) (.type "type")) true) {P : Fin → Shared → Prop} (hP : P (.done (.ret (.ref s.heap.objs.size))) { s with heap := s.heap.push (kxs_mw mwI c) }) :
    wpAny M A (Builtin.«wrapper_descriptor.__get__» ⟨[.builtin mwI, .ref c, .type "type"], []⟩) P E s := by
  unfold Builtin.«wrapper_descriptor.__get__»
  refine wpAny_bind (wpAny_of_eq (a := (.builtin mwI, some (.ref c), some (.type "type"))) (by first | rfl | kernel_rfl) ?_)
  refine wpAny_bind ?_
  refine wpAny_bind (wpAny_of_eq (a := (PySem.Str.ofString "__ror__", .type "type")) nac_ror ?_)
  refine wpAny_bind (hI.here ?_)
  refine KFB.if_not rfl ?_
  exact wpAny_pure (wpAny_bind (wpAny_newObj_type (wpAny_pure hP)))
structure RorA (K : Frag) (c : Addr) : Prop where
  op : nsIn K cStatics "thirdparty.any" = some none
  ty : typeIn K (.ref c) = some (.type "type")
  h2 : findIn K (.ref c) "__ror__" = some none
theorem ror_find {c : Addr} (h2 : findIn K (.ref c) "__ror__" = some none) : findCls K (.ref c) (.type "type") "__ror__" = some (.get (.builtin "wrapper_descriptor.__get__") (.builtin mwI) (.ref c) (.type "type")) := by
  have a1 : findIn K (.type "type") "__ror__" = some (some (.builtin mwI)) := (show findIn [] (.type "type") "__ror__" = some (some (.builtin mwI)) by decide +kernel)
  have a2 : specialIn K (.builtin mwI) "__get__" = some (some (.builtin "wrapper_descriptor.__get__")) := (show specialIn [] (.builtin mwI) "__get__" = some (some (.builtin "wrapper_descriptor.__get__")) by decide +kernel)
  have a3 : takesIn K (.builtin mwI) = some false := (show takesIn [] (.builtin mwI) = some false by decide +kernel)
  unfold findCls
  rw [a1]
  dsimp only [Option.bind]
  rw [a2]
  dsimp only [Option.bind]
  rw [a3]
  dsimp only [Option.bind]
  rw [h2]
theorem cls_get {c : Addr} {tk : Tok} {Q : Option Value → Shared → Prop} (X : K.In s.heap) (M : RorA K c)
    (h : Q (some (.ref s.heap.objs.size)) { s with heap := s.heap.push (kxs_mw mwI c) }) : wpAny (model prog w) A (getAttrBy? (.ref c) (.str "__ror__" tk)) Q E s := by
  have Lt : Looks (model prog w) s.heap (typeOf (.ref c)) (.type "type") := looks_typeIn X M.ty
  have Lo : Looks (model prog w) s.heap (opaqueClassAbove (.ref c)) none := looks_opaque X M.op
  have Lg : Looks (model prog w) s.heap (typeLookup (.type "type") "__getattribute__") (some (.builtin "type.__getattribute__")) := looks_findIn X type_tga
  have hTf : s.TypeIs (.builtin mwI) "wrapper_descriptor" := typ_ror
  unfold getAttrBy?
  refine wpAny_bind (wpAny_attempt ?_)
  unfold getAttrBy
  refine wpAny_holding (wpAny_bind (Lt.at (wpAny_bind (Lg.at ?_))))
  dsimp only
  rw [show (onTheHeap (.type "type") && Value.builtin "type.__getattribute__" == Value.builtin "object.__getattribute__") = false from rfl, if_neg (by decide)]
  unfold getAttrByItsOwn
  refine wpAny_bind (m := hookBefore (.type "type")) ?_
  unfold hookBefore
  rw [if_neg (by decide)]
  refine wpAny_pure ?_
  refine wpAny_bind (wpAny_attempt (wpAny_holding ?_))
  unfold callGetattribute
  rw [if_neg (by decide)]
  unfold boundAndCalled
  rw [KF.slot_tga.bind]
  refine wpAny_bind (wpAny_pure ?_)
  show wpAny _ _ (call (.builtin "type.__getattribute__") [.ref c, .str "__ror__" tk]) _ _ _
  refine wpAny_call ?_
  refine codeAny_call_builtin KF.slot_tga.plain KF.entry_tga ?_
  refine @check_slot (model prog w) _ _ s "type.__getattribute__" "type" "__getattribute__" (.ref c) [.str "__ror__" tk] [] _ (by decide +kernel) (by decide +kernel) (Lt.andThen .now) (KF.args_tga (.ref c) (.str "__ror__" tk)) ?_
  refine tga_run X Lo Lt (ror_find M.h2) ?_
  show wpAny _ _ (do ret (← holding [Value.builtin mwI] (call (.builtin "wrapper_descriptor.__get__") [.builtin mwI, .ref c, .type "type"]))) _ _ _
  refine wpAny_bind (wpAny_holding ?_)
  refine wpAny_call_entry kxs_slot_get hTf kxs_entry_get ?_ (kxs_args_get _ _ _)
  refine run_get2 (Lt.andThen .now) ?_
  refine ⟨_, rfl, wpAny_pure ?_⟩
  show wpAny (model prog w) A (handedOut (.ref s.heap.objs.size)) _ _ _
  exact wpAny_pure (wpAny_pure h)
theorem slot_mwne : Slot "method-wrapper" "__ne__" "method-wrapper.__ne__" :=
  .of (owner := "method-wrapper") (n := "__ne__") (by rw [typeLookup_type, builtinLookup_eq_fast]; kernel_rfl) (by decide +kernel) (by decide +kernel) (by decide +kernel)
    (by first | exact .inl (by decide +kernel) | exact .inr (by decide +kernel)) (by rw [isSubtype_type]; kernel_rfl)
theorem entry_mwne : entryFor table "method-wrapper.__ne__" = some Builtin.«method_wrapper.__ne__» := entryFor_alias (id' := "method_wrapper.__ne__") (by kernel_rfl) (by decide +kernel) (by decide +kernel) (by kernel_rfl)
theorem args_mwne (a b : Value) : argsOk "method-wrapper.__ne__" ⟨[a, b], []⟩ := by unfold argsOk; kernel_rfl
theorem sub_mw : isSubtype (.type "method-wrapper") (.type "method-wrapper") = pure true := by rw [isSubtype_type]; kernel_rfl
/-- two objects that are no tuples -/
theorem same_no {x y : Addr} {ox oy : Obj} {Q : Bool → Shared → Prop} (hx : s.heap.get? x = some ox) (hy : s.heap.get? y = some oy) (ne : x ≠ y) (nx : ∀ xs n, ox.data ≠ .seq xs n) (h : Q false s) : wpAny (model prog w) A (isSame (.ref x) (.ref y)) Q E s := by
  unfold isSame
  dsimp only
  rw [if_neg (by simpa using ne)]
  refine wpAny_bind (wpAny_load hx (wpAny_bind (wpAny_load hy ?_)))
  split
  · rename_i e _
    exact absurd e (nx _ _)
  · exact wpAny_pure h
theorem mw_ne {p q c d : Addr} {oc od : Obj} {P : Fin → Shared → Prop} (hp : s.heap.get? p = some (kxs_mw mwI c)) (hq : s.heap.get? q = some (kxs_mw mwI d)) (hc : s.heap.get? c = some oc) (hd : s.heap.get? d = some od) (ne : c ≠ d) (nx : ∀ xs n, oc.data ≠ .seq xs n)
    (h : P (.done (.ret (.bool true))) s) : wpAny (model prog w) A (Builtin.«method_wrapper.__ne__» ⟨[.ref p, .ref q], []⟩) P E s := by
  have hTq : s.TypeIs (.ref q) "method-wrapper" := ⟨_, hq, rfl⟩
  unfold Builtin.«method_wrapper.__ne__»
  refine wpAny_bind (wpAny_of_eq (a := (Value.ref p, [Value.ref q])) (by first | rfl | kernel_rfl) ?_)
  dsimp only [List.headD]
  refine wpAny_bind (wpAny_isInstance (b := true) hTq sub_mw ?_)
  refine KFB.if_not rfl ?_
  have f0 : (#[.builtin mwI, .ref c] : Array Value)[0]? = some (.builtin mwI) := rfl
  have f1 : (#[.builtin mwI, .ref c] : Array Value)[1]? = some (.ref c) := rfl
  have g0 : (#[.builtin mwI, .ref d] : Array Value)[0]? = some (.builtin mwI) := rfl
  have g1 : (#[.builtin mwI, .ref d] : Array Value)[1]? = some (.ref d) := rfl
  refine wpAny_bind (m := Builtin.Method_wrapper.mwParts (.ref p)) ?_
  unfold Builtin.Method_wrapper.mwParts
  refine wpAny_bind (wpAny_field hp rfl f0 ?_)
  refine wpAny_bind (wpAny_field hp rfl f1 (wpAny_pure ?_))
  refine wpAny_bind (m := Builtin.Method_wrapper.mwParts (.ref q)) ?_
  unfold Builtin.Method_wrapper.mwParts
  refine wpAny_bind (wpAny_field hq rfl g0 ?_)
  refine wpAny_bind (wpAny_field hq rfl g1 (wpAny_pure ?_))
  dsimp only
  rw [if_pos (beq_self_eq_true _)]
  refine wpAny_bind (same_no hc hd ne nx ?_)
  exact wpAny_pure h
theorem ne_true {p q c d : Addr} {oc od : Obj} {Q : Value → Shared → Prop} (hu : A.units < cLine) (hp : s.heap.get? p = some (kxs_mw mwI c)) (hq : s.heap.get? q = some (kxs_mw mwI d)) (hc : s.heap.get? c = some oc) (hd : s.heap.get? d = some od) (ne : c ≠ d) (nx : ∀ xs n, oc.data ≠ .seq xs n)
    (h : Q (.bool true) s) : wpAny (model prog w) A (richCompare .NotEq (.ref p) (.ref q)) Q E s := by
  have hTp : s.TypeIs (.ref p) "method-wrapper" := ⟨_, hp, rfl⟩
  have hTq : s.TypeIs (.ref q) "method-wrapper" := ⟨_, hq, rfl⟩
  unfold richCompare
  refine wpAny_holding (wpAny_bind (wpAny_cRoomFor hu ?_))
  show wpAny _ _ (do
    let ta ← typeOf (.ref p)
    _) _ _ _
  refine wpAny_bind (wpAny_typeOf hTp (wpAny_bind (wpAny_typeOf hTq ?_)))
  dsimp only
  rw [if_neg (by decide)]
  refine wpAny_bind (wpAny_pure ?_)
  rw [if_neg (by decide)]
  refine wpAny_bind (wpAny_tryCompare_slot hTp slot_mwne (wpAny_call_entry slot_mwne hTp entry_mwne (mw_ne hp hq hc hd ne nx ⟨_, rfl, (by intro z; cases z), wpAny_pure h⟩) (args_mwne _ _)))
theorem cls_obj {C : Addr} {cd : ClassData} (X : K.In s.heap) (h : clsIn K C = some cd) : ∃ o, s.heap.get? C = some o ∧ ∀ xs n, o.data ≠ .seq xs n := by
  unfold clsIn at h
  split at h
  · rename_i e
    exact ⟨_, X _ _ e, fun xs n z => by cases z⟩
  · cases h
theorem dr_or : dunderR "or" = ("__ror__" : Str) := by decide +kernel
structure BinO (K : Frag) (C f : Addr) (nm : String) : Prop where
  self : selfFirst K C = true
  at_ : findIn K (.ref C) (PySem.dunder nm) = some (some (.ref f))
  fn : isFn K (.ref f) = true
  re : findIn K (.ref C) (dunderR nm) = some none
theorem refl_ror {C C2 f f2 : Addr} {cd cd2 : ClassData} {Q : Bool → Shared → Prop} (X : K.In s.heap) (hu : A.units < cLine) (hne : C ≠ C2) (c : BinO K C f "or") (c2 : BinO K C2 f2 "or") (hc : clsIn K C = some cd) (hc2 : clsIn K C2 = some cd2) (r : RorA K C) (r2 : RorA K C2)
    (h : ∀ h' t', Grown s.heap h' → Q true { s with heap := h', toks := t' }) : wpAny (model prog w) A (reflectedDiffers (.ref C) (.ref C2) "or") Q E s := by
  have L1 : Looks (model prog w) s.heap (numberSlotInPython (.ref C) "or") true := ksp_inPy X c.at_ c.re (.inl rfl)
  have L2 : Looks (model prog w) s.heap (numberSlotInPython (.ref C2) "or") true := ksp_inPy X c2.at_ c2.re (.inl rfl)
  unfold reflectedDiffers
  refine wpAny_bind (L1.at ?_)
  rw [if_neg (by decide)]
  refine wpAny_bind (L2.at ?_)
  rw [if_neg (by decide), dr_or]
  refine wpAny_bind (wpAny_mkStr ?_ (Nat.le_trans (show ("__ror__" : Str).length ≤ 1000 by decide +kernel) (by rw [sizeLine_eq]; decide)))
  refine wpAny_bind (cls_get (s := { s with toks := s.toks + 1 }) X r2 ?_)
  have k1 : Grown s.heap (s.heap.push (kxs_mw mwI C2)) := fun b o e => Heap.get?_push_of_some _ e
  have gp2 : (s.heap.push (kxs_mw mwI C2)).get? s.heap.objs.size = some (kxs_mw mwI C2) := Heap.get?_push_size _ rfl
  have sz : (s.heap.push (kxs_mw mwI C2)).objs.size = s.heap.objs.size + 1 := Heap.size_push ..
  dsimp only
  generalize s.heap.push (kxs_mw mwI C2) = h1 at k1 gp2 sz ⊢
  refine wpAny_holding (wpAny_bind (cls_get (s := { s with heap := h1, toks := s.toks + 1 }) (X.keeps k1) r ?_))
  have k2 : Grown h1 (h1.push (kxs_mw mwI C)) := fun b o e => Heap.get?_push_of_some _ e
  have gp1 : (h1.push (kxs_mw mwI C)).get? h1.objs.size = some (kxs_mw mwI C) := Heap.get?_push_size _ rfl
  have gp2 := k2 _ _ gp2
  have k12 : Grown s.heap (h1.push (kxs_mw mwI C)) := fun b o e => k2 _ _ (k1 _ _ e)
  have hpq : h1.objs.size ≠ s.heap.objs.size := by rw [sz]; exact Nat.succ_ne_self _
  dsimp only
  generalize h1.push (kxs_mw mwI C) = h2 at gp1 gp2 k12 ⊢
  obtain ⟨oc, eoc, nx⟩ := cls_obj (s := { s with heap := h2, toks := s.toks + 1 }) (X.keeps k12) hc
  obtain ⟨od, eod, _⟩ := cls_obj (s := { s with heap := h2, toks := s.toks + 1 }) (X.keeps k12) hc2
  refine wpAny_holding (wpAny_bind (same_no (s := { s with heap := h2, toks := s.toks + 1 }) gp1 gp2 hpq (fun xs n z => by cases z) ?_))
  rw [if_neg (by decide)]
  refine wpAny_bind (ne_true (s := { s with heap := h2, toks := s.toks + 1 }) hu gp1 gp2 eoc eod hne nx ?_)
  show wpAny _ _ (truthy (.bool true)) _ _ _
  unfold truthy
  exact wpAny_pure (h h2 _ k12)
end
end G

set_option Elab.async false
set_option linter.all false
set_option maxRecDepth 100000
set_option maxHeartbeats 4000000
namespace G
open PySem PySem.W PySem.Calls PyProof.Rows
section
variable {α : Type} {prog : Program} {w : World} {A : Around} {E : Value → Shared → Prop} {s : Shared} {K : Frag}
theorem bin_ownG {x y C C2 f f2 : Addr} {ox oy : Obj} {od od2 : Option Obj} {op : Operator} {b : Bool} {Q : Value → Shared → Prop} (X : K.In s.heap) (I : InstAt s.heap x ox C od) (J : InstAt s.heap y oy C2 od2) 
    (c : BinO K C f op.info.2) (c2 : BinO K C2 f2 op.info.2) (hsub : subIn K (.ref C2) (.ref C) = some b) (hR : C ≠ C2 → ∀ Q : Bool → Shared → Prop, (∀ h' t' r, Grown s.heap h' → Q r { s with heap := h', toks := t' }) → wpAny (model prog w) A (reflectedDiffers (.ref C) (.ref C2) op.info.2) Q E s)
    (h : ∀ h' t', Grown s.heap h' → wpAny (model prog w) A (call (.ref f) [.ref x, .ref y]) (W.CmpBack Q) E { s with heap := h', toks := t' }) : wpAny (model prog w) A (binaryOp op (.ref x) (.ref y)) Q E s := by
  obtain ⟨cd, rest, hcd, hm⟩ := ksp_first c.self
  obtain ⟨cd2, rest2, hcd2, hm2⟩ := ksp_first c2.self
  have X0 := X
  have one : ∀ (h' : Heap) (t' : Nat), Grown s.heap h' → wpAny (model prog w) A (tryMethod (.ref x) (PySem.dunder op.info.2) (.ref y)) (fun r s' => ∃ v, r = some v ∧ Q v s') E { s with heap := h', toks := t' } := fun h' t' g => by
    obtain ⟨ox', od', I'⟩ : ∃ ox' od', InstAt h' x ox' C od' := ⟨_, _, inst_grown I g⟩
    exact ksp_try (s := { s with heap := h', toks := t' }) (X.keeps g) I' c.at_ c.fn (h h' t' g)
  rcases hi : op.info with ⟨sym, nm⟩
  rw [hi] at c c2 hR one
  dsimp only at c c2 hR one
  by_cases hCC : C = C2
  · subst hCC
    have L1 : Looks (model prog w) s.heap (typeOf (.ref x)) (.ref C) := I.type
    have L2 : Looks (model prog w) s.heap (typeOf (.ref y)) (.ref C) := J.type
    have L3 : Looks (model prog w) s.heap (fillsNumberSlot (.ref C) nm) true := fills_K X hcd hm c.at_
    unfold binaryOp
    rw [hi]
    refine wpAny_holding ?_
    dsimp only
    refine wpAny_bind ?_
    unfold binaryOp1
    dsimp only
    refine wpAny_bind (L1.at (wpAny_bind (L2.at (wpAny_bind (L3.at ?_)))))
    rw [show (Value.ref C == Value.ref C) = true from beq_self_eq_true _, if_pos rfl]
    refine wpAny_bind (wpAny_pure ?_)
    rw [if_neg (by decide), if_neg (by decide), if_neg (by decide)]
    refine wpAny_bind (wpAny_pure ?_)
    rw [if_neg (by decide), if_pos rfl]
    refine wpAny_bind (wpAny_mono (one s.heap s.toks (fun _ _ z => z)) (fun r s' ⟨v, er, hq⟩ => ?_) (fun _ _ z => z))
    subst er
    exact wpAny_pure (wpAny_pure hq)
  have hne : (Value.ref C == Value.ref C2) = false := Bool.eq_false_iff.mpr fun q => by cases beq_iff_eq.mp q; exact hCC rfl
  have L1 : Looks (model prog w) s.heap (typeOf (.ref x)) (.ref C) := I.type
  have L2 : Looks (model prog w) s.heap (typeOf (.ref y)) (.ref C2) := J.type
  have L3 : Looks (model prog w) s.heap (fillsNumberSlot (.ref C) nm) true := fills_K X hcd hm c.at_
  have L4 : Looks (model prog w) s.heap (fillsNumberSlot (.ref C2) nm) true := fills_K X hcd2 hm2 c2.at_
  have L5 : Looks (model prog w) s.heap (isSubtype (.ref C2) (.ref C)) b := looks_subIn X hsub
  have L6 : Looks (model prog w) s.heap (numberSlotInPython (.ref C) nm) true := ksp_inPy X c.at_ c.re (.inl rfl)
  have L7 : Looks (model prog w) s.heap (numberSlotInPython (.ref C2) nm) true := ksp_inPy X c2.at_ c2.re (.inl rfl)
  unfold binaryOp
  rw [hi]
  refine wpAny_holding ?_
  dsimp only
  refine wpAny_bind ?_
  unfold binaryOp1
  dsimp only
  refine wpAny_bind (L1.at (wpAny_bind (L2.at (wpAny_bind (L3.at ?_)))))
  rw [hne, if_neg (by decide)]
  refine wpAny_bind (L4.at ?_)
  rw [if_pos (show (true && true) = true from rfl)]
  refine wpAny_bind (L5.at ?_)
  cases b with
  | false =>
    rw [if_neg (by decide)]
    rw [if_neg (by decide), if_pos (show (true && true && !false) = true from rfl)]
    refine wpAny_bind ((L6.keeps (fun _ _ z => z)).at ?_)
    rw [if_pos rfl]
    refine wpAny_bind ((L7.keeps (fun _ _ z => z)).at ?_)
    rw [if_neg (by decide), if_pos rfl]
    refine wpAny_bind (wpAny_mono (one s.heap s.toks (fun _ _ z => z)) (fun r s' ⟨v, er, hq⟩ => ?_) (fun _ _ z => z))
    subst er
    exact wpAny_pure (wpAny_pure hq)
  | true =>
    rw [if_pos rfl]
    refine wpAny_bind (hR hCC _ fun h' t' r g => ?_)
    cases r with
    | false =>
      rw [if_neg (by decide), if_pos (show (true && true && !false) = true from rfl)]
      refine wpAny_bind ((L6.keeps g).at ?_)
      rw [if_pos rfl]
      refine wpAny_bind ((L7.keeps g).at ?_)
      rw [if_neg (by decide), if_pos rfl]
      refine wpAny_bind (wpAny_mono (one h' t' g) (fun r s' ⟨v, er, hq⟩ => ?_) (fun _ _ z => z))
      subst er
      exact wpAny_pure (wpAny_pure hq)
    | true =>
      rw [if_pos rfl]
      refine wpAny_bind (wpAny_rule ?_)
      have Ln : Looks (model prog w) h' (specialOf (.ref y) (dunderR nm)) none := (show Looks (model prog w) h' (typeOf (.ref y)) (.ref C2) from (inst_grown J g).type).andThen (looks_findIn (X.keeps g) c2.re)
      refine wpAny_bind (m := tryMethod (.ref y) (dunderR nm) (.ref x)) ?_
      unfold tryMethod
      refine wpAny_bind (m := callSpecial? (.ref y) (dunderR nm) [.ref x]) ?_
      unfold callSpecial?
      refine wpAny_bind (Ln.at ?_)
      refine wpAny_pure (wpAny_pure ?_)
      dsimp only
      rw [if_neg (by decide)]
      refine wpAny_bind (wpAny_pure ?_)
      rw [if_neg (by decide), if_pos rfl]
      refine wpAny_bind (wpAny_mono (one h' t' g) (fun r s' ⟨v, er, hq⟩ => ?_) (fun _ _ z => z))
      subst er
      exact wpAny_pure (wpAny_pure hq)
end
end G

set_option Elab.async false
set_option linter.all false
set_option maxRecDepth 100000
set_option maxHeartbeats 4000000
namespace G
open PySem PySem.Spec PyProof.Rows L2 StX
section
variable {X : Cx} {CX : CXT} {k : Nat} {ι : Type} {cO : ι → Addr} {sp : Sp} {E : XK} {op : Operator}
/-- a family of classes with the operator op -/
structure OpF (P : Program) (w : World) (K : PySem.W.Frag) (mg : Str → Option Value) (base : Heap) (CX : CXT) (k : Nat) (cO : ι → Addr) (op : Operator) (sp : Sp) : Prop where
  c : ∀ i, ∃ f, BinO K (cO i) f op.info.2 ∧ FnR P w K mg base CX k f sp
  r : ∀ i j (A : Around) (s : Shared) (Q : Bool → Shared → Prop) (E : Value → Shared → Prop), K.In s.heap → A.handled = none → A.units < cLine → cO i ≠ cO j → (∀ h' t' r, Grown s.heap h' → Q r { s with heap := h', toks := t' }) → wpAny (model P w) A (reflectedDiffers (.ref (cO i)) (.ref (cO j)) op.info.2) Q E s
  s : ∀ i j, ∃ b, PySem.W.subIn K (.ref (cO j)) (.ref (cO i)) = some b
theorem op_own (O : OpF X.prog X.w X.K X.mg X.base CX k cO op sp) (hr : Room k X.A) (hx : Passes CX X E) :
    OpR X (binaryOp op) (fun x y H Q => ∃ i j a b, x = .ref a ∧ y = .ref b ∧ InsC X H a (cO i) ∧ InsC X H b (cO j) ∧ sp [.ref a, .ref b] H (fun v H2 => (∃ r, v = V.ref r) ∧ Q v H2) E) := by
  intro pins s σ H x y v u Q I rx ry ⟨i, j, a, b, ex, ey, ha, hb, q⟩
  subst ex ey
  obtain rfl : v = Value.ref a := rx
  obtain rfl : u = Value.ref b := ry
  obtain ⟨f, c, F⟩ := O.c i
  obtain ⟨f2, c2, _⟩ := O.c j
  obtain ⟨sb, hs⟩ := O.s i j
  obtain ⟨ox, od, Ia, _⟩ := insC_at I ha
  obtain ⟨oy, od2, Ib, _⟩ := insC_at I hb
  refine bin_ownG I.kIn Ia Ib c c2 hs (fun hne Q hq => O.r i j X.A s Q _ I.kIn hr.hd hr.units0 hne hq) fun h' t' g => ?_
  have I' : Inv X pins σ H { s with heap := h', toks := t' } := I.kept g
  refine wpAny_mono (wpAny_call (run_fnR (us := [.ref a, .ref b]) (vs := [.ref a, .ref b]) F hr hx I' (.cons rfl (.cons rfl .nil)) q)) (fun r s' hq => ?_) fun _ _ z => z
  obtain ⟨v, H2, I2, rv, ⟨r0, ev⟩, q2⟩ := hq
  subst ev
  obtain rfl : r = Value.ref r0 := rv
  exact ⟨.ref r0, H2, I2, rfl, q2⟩
end
end G

set_option Elab.async false
set_option linter.all false
set_option maxRecDepth 100000
set_option maxHeartbeats 4000000
/-! Rules joined, on paper. -/
namespace G
open PySem PySem.Spec PyProof.Rows L2 StX
inductive RT
  | bas (d : RD)
  | and (a b : RT)
  | or (a b : RT)
  | less (a b : RT)
inductive JK | b (k : RK) | both | either | without
def RT.kind : RT → JK
  | .bas d => .b d.kind
  | .and _ _ => .both
  | .or _ _ => .either
  | .less _ _ => .without
def RT.dep : RT → Nat
  | .bas _ => 0
  | .and a b => max a.dep b.dep + 1
  | .or a b => max a.dep b.dep + 1
  | .less a b => max a.dep b.dep + 1
/-- which cells a plain rule names -/
def NmD (p : Int) (rows : List VR) : RD → Nat → Prop
  | .never, _ => False
  | .all, c => c ∈ unre rows
  | .counting, c => Cnt rows c
  | .above m, c => m < (rows.length : Int) ∧ c ∈ unre rows
  | .places ps, c => p ∈ ps.map (fun (c : Nat) => (c : Int)) ∧ c ∈ unre rows
def NmT (p : Int) (rows : List VR) : RT → Nat → Prop
  | .bas d, c => NmD p rows d c
  | .and a b, c => NmT p rows a c ∧ NmT p rows b c
  | .or a b, c => NmT p rows a c ∨ NmT p rows b c
  | .less a b, c => NmT p rows a c ∧ ¬ NmT p rows b c
structure NamedT (p : Int) (rows : List VR) (t : RT) (zs : List Nat) : Prop where
  so : zs.Pairwise (· < ·)
  mem : ∀ c, c ∈ zs ↔ NmT p rows t c
theorem unre_sorted {rows : List VR} (gv : GoodV rows) : (unre rows).Pairwise (· < ·) := by
  have s := gv.so
  unfold unre
  exact s.sublist ((List.filter_sublist).map _)
theorem named_bas {p : Int} {rows : List VR} (gv : GoodV rows) : ∀ {d : RD} {zs : List Nat}, NamedBy p rows d zs → NamedT p rows (.bas d) zs := by
  intro d zs h
  cases d with
  | never => rw [show zs = [] from h]; exact ⟨.nil, fun c => ⟨fun z => (nomatch z), fun z => z.elim⟩⟩
  | all => rw [show zs = unre rows from h]; exact ⟨unre_sorted gv, fun c => Iff.rfl⟩
  | counting =>
    obtain ⟨p1, nd, hz⟩ := h
    refine ⟨?_, hz⟩
    exact (p1.and nd).imp fun ⟨a, b⟩ => by omega
  | above m =>
    rw [show zs = if m < (rows.length : Int) then unre rows else [] from h]
    split
    · rename_i h; exact ⟨unre_sorted gv, fun c => ⟨fun z => ⟨h, z⟩, fun z => z.2⟩⟩
    · rename_i h; exact ⟨.nil, fun c => ⟨fun z => (nomatch z), fun z => (h z.1).elim⟩⟩
  | places ps =>
    rw [show zs = if p ∈ ps.map (fun (c : Nat) => (c : Int)) then unre rows else [] from h]
    split
    · rename_i h; exact ⟨unre_sorted gv, fun c => ⟨fun z => ⟨h, z⟩, fun z => z.2⟩⟩
    · rename_i h; exact ⟨.nil, fun c => ⟨fun z => (nomatch z), fun z => (h z.1).elim⟩⟩
theorem NamedT.eq {p : Int} {rows : List VR} {t u : RT} {zs ys : List Nat} (h : NamedT p rows t zs) (g : NamedT p rows u ys) (e : ∀ c, NmT p rows t c ↔ NmT p rows u c) : zs = ys := by
  have n1 : zs.Nodup := h.so.imp fun a => Nat.ne_of_lt a
  have n2 : ys.Nodup := g.so.imp fun a => Nat.ne_of_lt a
  have pm : zs.Perm ys := (List.perm_ext_iff_of_nodup n1 n2).mpr fun c => ((h.mem c).trans (e c)).trans (g.mem c).symm
  exact List.Perm.eq_of_pairwise (fun a b _ _ h1 h2 => absurd h1 (by omega)) h.so g.so pm
theorem nmD_cell {p : Int} {rows : List VR} : ∀ {d : RD} {c : Nat}, NmD p rows d c → c ∈ rows.map VR.c := by
  have un : ∀ z ∈ unre rows, z ∈ rows.map VR.c := fun z hz => by
    unfold unre at hz
    obtain ⟨r, hr, rfl⟩ := List.mem_map.mp hz
    exact List.mem_map.mpr ⟨r, (List.mem_filter.mp hr).1, rfl⟩
  intro d c h
  cases d with
  | never => exact h.elim
  | all => exact un _ h
  | counting => exact cnt_cell h
  | above m => exact un _ h.2
  | places ps => exact un _ h.2
theorem nm_cell {p : Int} {rows : List VR} : ∀ {t : RT} {c : Nat}, NmT p rows t c → c ∈ rows.map VR.c
  | .bas d, c, h => nmD_cell h
  | .and a b, c, h => nm_cell (t := a) h.1
  | .or a b, c, h => h.elim (fun h => nm_cell (t := a) h) (fun h => nm_cell (t := b) h)
  | .less a b, c, h => nm_cell (t := a) h.1
theorem NamedT.len {p : Int} {rows : List VR} {t : RT} {zs : List Nat} (gv : GoodV rows) (h : NamedT p rows t zs) : zs.length ≤ 8 := by
  have n1 : zs.Nodup := h.so.imp fun a => Nat.ne_of_lt a
  have := nd_len rows.length (m := rows.map VR.c) (List.length_map _) n1 fun x hx => nm_cell ((h.mem x).mp hx)
  have := gv.len
  omega
theorem named_and {p : Int} {rows : List VR} {a b : RT} {zs ys : List Nat} (h : NamedT p rows a zs) (g : NamedT p rows b ys) : NamedT p rows (.and a b) (zs.filter fun c => decide (c ∈ ys)) :=
  ⟨h.so.sublist List.filter_sublist, fun c => by
    rw [List.mem_filter, decide_eq_true_iff, h.mem, g.mem]
    exact Iff.rfl⟩
theorem named_less {p : Int} {rows : List VR} {a b : RT} {zs ys : List Nat} (h : NamedT p rows a zs) (g : NamedT p rows b ys) : NamedT p rows (.less a b) (zs.filter fun c => !decide (c ∈ ys)) :=
  ⟨h.so.sublist List.filter_sublist, fun c => by
    rw [List.mem_filter, Bool.not_eq_true', decide_eq_false_iff_not, h.mem, g.mem]
    exact Iff.rfl⟩
theorem named_or {p : Int} {rows : List VR} {a b : RT} {zs ys ms : List Nat} (h : NamedT p rows a zs) (g : NamedT p rows b ys) (so : ms.Pairwise (· < ·)) (hm : ∀ c, c ∈ ms ↔ c ∈ zs ∨ c ∈ ys) : NamedT p rows (.or a b) ms :=
  ⟨so, fun c => by rw [hm, h.mem, g.mem]; exact Iff.rfl⟩
/-- the strictly sorted numbers of a set of numbers -/
theorem strict_nat2 {l : List Nat} {ns : List Int} (pw : ns.Pairwise (· < ·)) (hm : ∀ k : Int, k ∈ ns ↔ k ∈ l.map fun (c : Nat) => (c : Int)) : ∃ ms : List Nat, ns.map V.int = intsN ms ∧ ms.Pairwise (· < ·) ∧ ∀ m, m ∈ ms ↔ m ∈ l := by
  have pos : ∀ x ∈ ns, ((x.toNat : Nat) : Int) = x := fun x hx => by
    obtain ⟨c, _, rfl⟩ := List.mem_map.mp ((hm x).mp hx)
    rfl
  refine ⟨ns.map Int.toNat, ?_, ?_, fun m => ⟨fun hmm => ?_, fun hmm => ?_⟩⟩
  · unfold intsN
    rw [List.map_map]
    refine List.map_congr_left fun x hx => ?_
    show V.int x = V.int ((x.toNat : Nat) : Int)
    rw [pos x hx]
  · refine List.pairwise_map.mpr (pw.imp_of_mem fun {a b} ha hb h => ?_)
    have := pos a ha
    have := pos b hb
    omega
  · obtain ⟨x, hx, rfl⟩ := List.mem_map.mp hmm
    obtain ⟨c, hc, e⟩ := List.mem_map.mp ((hm x).mp hx)
    rw [← e]
    exact hc
  · exact List.mem_map.mpr ⟨(m : Int), (hm _).mpr (List.mem_map.mpr ⟨m, hmm, rfl⟩), rfl⟩
/-! ### rules and what is told of them, as they stand -/
def RuleT (cJ : JK → Addr) (H : Hp) : Addr → RT → Prop
  | x, .bas d => RuleAt (fun k => cJ (.b k)) H x d
  | x, .and a b => ∃ dx y z, H x = some (.ins (cJ .both) dx [("_one", .ref y), ("_other", .ref z)]) ∧ RuleT cJ H y a ∧ RuleT cJ H z b
  | x, .or a b => ∃ dx y z, H x = some (.ins (cJ .either) dx [("_one", .ref y), ("_other", .ref z)]) ∧ RuleT cJ H y a ∧ RuleT cJ H z b
  | x, .less a b => ∃ dx y z, H x = some (.ins (cJ .without) dx [("_one", .ref y), ("_other", .ref z)]) ∧ RuleT cJ H y a ∧ RuleT cJ H z b
theorem RuleAt.kp {cO : RK → Addr} {S : List Addr} {H H' : Hp} (c : Ch S H H') (ni : ∀ a C dx fs, H a = some (.ins C dx fs) → a ∉ S) : ∀ {x : Addr} {d : RD}, RuleAt cO H x d → RuleAt cO H' x d
  | x, .never, ⟨dx, h⟩ => ⟨dx, c.kp _ _ (ni _ _ _ _ h) h⟩
  | x, .all, ⟨dx, h⟩ => ⟨dx, c.kp _ _ (ni _ _ _ _ h) h⟩
  | x, .counting, ⟨dx, h⟩ => ⟨dx, c.kp _ _ (ni _ _ _ _ h) h⟩
  | x, .above _, ⟨dx, h⟩ => ⟨dx, c.kp _ _ (ni _ _ _ _ h) h⟩
  | x, .places _, ⟨dx, t, h, g⟩ => ⟨dx, t, c.kp _ _ (ni _ _ _ _ h) h, c.tu _ _ g⟩
theorem RuleT.kp {cJ : JK → Addr} {S : List Addr} {H H' : Hp} (c : Ch S H H') (ni : ∀ a C dx fs, H a = some (.ins C dx fs) → a ∉ S) : ∀ {t : RT} {x : Addr}, RuleT cJ H x t → RuleT cJ H' x t
  | .bas _, _, h => RuleAt.kp c ni h
  | .and _ _, _, ⟨dx, y, z, h, ha, hb⟩ => ⟨dx, y, z, c.kp _ _ (ni _ _ _ _ h) h, RuleT.kp c ni ha, RuleT.kp c ni hb⟩
  | .or _ _, _, ⟨dx, y, z, h, ha, hb⟩ => ⟨dx, y, z, c.kp _ _ (ni _ _ _ _ h) h, RuleT.kp c ni ha, RuleT.kp c ni hb⟩
  | .less _ _, _, ⟨dx, y, z, h, ha, hb⟩ => ⟨dx, y, z, c.kp _ _ (ni _ _ _ _ h) h, RuleT.kp c ni ha, RuleT.kp c ni hb⟩
theorem RuleT.same {cJ : JK → Addr} {H H' : Hp} {t : RT} {x : Addr} (h : RuleT cJ H x t) (s : Same H H') : RuleT cJ H' x t := RuleT.kp (Ch.same (S := []) s) (fun _ _ _ _ _ z => nomatch z) h
theorem RuleT.ins {cJ : JK → Addr} {H : Hp} : ∀ {t : RT} {x : Addr}, RuleT cJ H x t → ∃ dx fs, H x = some (.ins (cJ t.kind) dx fs) ∧ fs.lookup ("names" : Str) = none
  | .bas d, _, h => RuleAt.ins (d := d) h
  | .and _ _, _, ⟨dx, y, z, h, _⟩ => ⟨dx, _, h, rfl⟩
  | .or _ _, _, ⟨dx, y, z, h, _⟩ => ⟨dx, _, h, rfl⟩
  | .less _ _, _, ⟨dx, y, z, h, _⟩ => ⟨dx, _, h, rfl⟩
def ToldT (H : Hp) : Addr → RT → Prop
  | x, .bas d => ToldAt H x d
  | x, .and a b => ∃ q y z, H x = some (.tup [.str "and", .ref q]) ∧ H q = some (.tup [.ref y, .ref z]) ∧ ToldT H y a ∧ ToldT H z b
  | x, .or a b => ∃ q y z, H x = some (.tup [.str "or", .ref q]) ∧ H q = some (.tup [.ref y, .ref z]) ∧ ToldT H y a ∧ ToldT H z b
  | x, .less a b => ∃ q y z, H x = some (.tup [.str "less", .ref q]) ∧ H q = some (.tup [.ref y, .ref z]) ∧ ToldT H y a ∧ ToldT H z b
theorem ToldAt.ch {S : List Addr} {H H' : Hp} (c : Ch S H H') : ∀ {t : Addr} {d : RD}, ToldAt H t d → ToldAt H' t d
  | _, .never, h => c.tu _ _ h
  | _, .all, h => c.tu _ _ h
  | _, .counting, h => c.tu _ _ h
  | _, .above _, h => c.tu _ _ h
  | _, .places _, ⟨q, h, g⟩ => ⟨q, c.tu _ _ h, c.tu _ _ g⟩
theorem ToldT.ch {S : List Addr} {H H' : Hp} (c : Ch S H H') : ∀ {t : RT} {x : Addr}, ToldT H x t → ToldT H' x t
  | .bas _, _, h => ToldAt.ch c h
  | .and _ _, _, ⟨q, y, z, h, g, ha, hb⟩ => ⟨q, y, z, c.tu _ _ h, c.tu _ _ g, ToldT.ch c ha, ToldT.ch c hb⟩
  | .or _ _, _, ⟨q, y, z, h, g, ha, hb⟩ => ⟨q, y, z, c.tu _ _ h, c.tu _ _ g, ToldT.ch c ha, ToldT.ch c hb⟩
  | .less _ _, _, ⟨q, y, z, h, g, ha, hb⟩ => ⟨q, y, z, c.tu _ _ h, c.tu _ _ g, ToldT.ch c ha, ToldT.ch c hb⟩
theorem ToldT.same {H H' : Hp} {t : RT} {x : Addr} (h : ToldT H x t) (s : Same H H') : ToldT H' x t := ToldT.ch (Ch.same (S := []) s) h
end G

set_option Elab.async false
set_option linter.all false
set_option maxRecDepth 100000
set_option maxHeartbeats 4000000
/-! set(xs) of a tuple of numbers. -/
noncomputable section
namespace G
open PySem PySem.Spec PyProof.Rows L2
theorem tup_push {h : Heap} {l : Addr} {items : Array Value} (x : h.IsTuple l items) (o : Obj) : (h.push o).IsTuple l items := by
  obtain ⟨u, e, c, d⟩ := x
  exact ⟨u, Heap.get?_push_of_some _ e, c, d⟩
section
variable {P : Program} {w : World} {A : Around} {E : Value → Shared → Prop} {s : Shared}
theorem set_fillT {B : Around} {l : Addr} {items : Array Value} {xs : List Int} {R : Result → Shared → Prop} (hh : B.handled = none) (hl : s.heap.IsTuple l items) (hi : IntsAre items.toList xs) (few : xs.length + 1 < scanBound)
    (fin : ∀ s2, SetMadeI w s xs s2 → R (.ok (.ret .none)) s2) :
    codeAny (model P w) B (.builtin "set.update.loop" ⟨[.ref s.heap.objs.size, .ref (s.heap.push (set0 w)).objs.size], []⟩) R { s with heap := (s.heap.push (set0 w)).push { cls := .type "tuple_iterator", data := .fields #[.ref l, .int 0 0] } } := by
  have sz : items.size = xs.length := by rw [← IntsAre.length hi, Array.length_toList]
  have z1 : (s.heap.push (set0 w)).objs.size = s.heap.objs.size + 1 := Heap.size_push ..
  have hl2 := hl
  obtain ⟨o, ho, hc, nl, hd⟩ := hl
  have ll : l < s.heap.objs.size := Heap.lt_size ho
  have nf : s.heap.objs.size ∉ [(s.heap.push (set0 w)).objs.size, l] := fun z => by
    rcases List.mem_cons.mp z with z | z
    · exact Nat.ne_of_lt (Nat.lt_succ_self _) (z.trans z1)
    · exact Nat.ne_of_gt ll (List.mem_singleton.mp z)
  refine set_update_ints ((Walks.tuple (by simpa using hh) _ l (by rw [z1]; exact Nat.ne_of_lt (Nat.lt_succ_of_lt ll)) items).toS) _ nf xs sz few (fun i v e => ?_) items.size 0 _ (by omega) (Nat.zero_le _) ⟨⟨_, Heap.get?_push_size _ rfl, rfl, rfl⟩, tup_push (tup_push hl2 _) _⟩ ⟨0, Nat.le_refl _, (setR_new_at (ns := xs) (Heap.get?_push_of_some _ (Heap.get?_push_size _ rfl)))⟩ fun s' c mv hc T => ?_
  · have e' : items.toList[i]? = some v := by rw [Array.getElem?_toList]; exact e
    exact ints_at2 hi i v e'
  · obtain ⟨h', g, d, tk, os⟩ := s'
    have eg : g = s.gens := mv.gens
    have ed : d = s.drawn := mv.drawn
    have eo : os = s.os := mv.os
    subst eg ed eo
    refine fin _ ⟨h', tk, c, rfl, T, by omega, fun b u e => mv.heap b u (fun z => ?_) (Heap.get?_push_of_some _ (Heap.get?_push_of_some _ e))⟩
    have lb := Heap.lt_size e
    rcases List.mem_cons.mp z with z | z
    · exact Nat.ne_of_lt lb z
    · exact Nat.ne_of_lt (Nat.lt_succ_of_lt lb) ((List.mem_singleton.mp z).trans z1)
set_option maxHeartbeats 3200000 in
theorem call_setT {l : Addr} {items : Array Value} {xs : List Int} {Q : Value → Shared → Prop} (hh : A.handled = none) (hl : s.heap.IsTuple l items) (hi : IntsAre items.toList xs) (few : xs.length + 1 < scanBound)
    (fin : ∀ s2, SetMadeI w s xs s2 → Q (.ref s.heap.objs.size) s2) : wpAny (model P w) A (call (.type "set") [.ref l]) Q E s := by
  obtain ⟨c0, c1, mro⟩ := F.called_set.mro; have made := F.called_set.made; have sub := F.called_set.sub
  refine wpAny_call (codeAny_of_tree (show wpAny _ _ (callAny (.type "set") _) _ _ _ from wpAny_pure ⟨Code.quiet_builtin _ (by decide +kernel), codeAny_builtin F.entry_type_call ?_⟩))
  rw [Around.under_plain (weight_type_call_type "set" [.ref l] []) rfl]
  have nt := F.called_set.notType; have cc := F.called_set.canCreate; have tc := F.typeCall_set_1 (.ref l)
  repeat (any_goals (first | assumption | wp_step))
  refine codeAny_mono (code_set_led1 (.ref l) (E := E) (Q₁ := fun v s1 => v = .ref s.heap.objs.size ∧ s1 = { s with heap := s.heap.push (set0 w) }) ⟨rfl, rfl⟩) fun r s1 hr => ?_
  rcases r with e | fl
  · exact hr
  cases fl with
  | ret v =>
    obtain ⟨rfl, rfl⟩ := hr
    have e0 : (s.heap.push (set0 w)).get? s.heap.objs.size = some (set0 w) := Heap.get?_push_size _ rfl
    have isS : Shared.TypeIs { s with heap := s.heap.push (set0 w) } (.ref s.heap.objs.size) "set" := ⟨_, e0, rfl⟩
    have il := F.called_set.init.lookup; have ib := F.called_set.init.bind (.ref s.heap.objs.size)
    repeat (any_goals (first | assumption | wp_step))
    refine codeAny_mono (codeAny_call_builtin (R := wants (fun r s2 => r = .none ∧ SetMadeI w s xs s2) E) F.called_set.init.plain F.entry_set_init (check_set_init_1 isS ?_)) fun r s2 hr => ?_
    · obtain ⟨⟨oc, od, odt, osl⟩, ho, hc, nl, hd⟩ := hl
      simp only at hc hd
      subst hc hd
      have ho1 : (s.heap.push (set0 w)).get? l = some { cls := .type "tuple", dict := od, data := .seq items nl, slots := osl } := Heap.get?_push_of_some _ ho
      have n1 := F.sub_tuple_set; have n2 := F.sub_tuple_frozenset
      have n3 : (Value.type "tuple" == Value.type "dict") = false := by decide
      have hl1 : (s.heap.push (set0 w)).IsTuple l items := ⟨_, ho1, rfl, nl, rfl⟩
      unfold Builtin.«set.__init__» noKeywords Builtin.Frozenset.updateFrom
      generalize hPI : pyIter = PI; wp_walk; subst hPI
      refine wpAny_pyIter_tuple hl1 (wpAny_bind (wpAny_runValue ?_))
      refine set_fillT (by simp [hh]) ⟨_, ho, rfl, nl, rfl⟩ hi few fun s2 m => ?_
      change wpAny _ _ _ _ _ _; refine wpAny_pure ?_
      change wpAny _ _ (ret Value.none) _ _ _; exact wpAny_pure ⟨rfl, m⟩
    · rcases r with e | fl
      · exact hr
      cases fl with
      | ret v =>
        obtain ⟨rfl, m⟩ := hr
        repeat (any_goals (first | assumption | wp_step))
        exact fin _ m
      | _ => exact hr.elim
  | _ => exact hr.elim
end
section
variable {X : Cx}
/-- set(xs), xs a list of numbers -/
def rSetT (K : PySem.W.Frag) (w : World) : List V → Hp → VK → Prop := fun vs H Q => ∃ (l : Addr) (xs : List Int), vs = [V.ref l] ∧ SqT K H l (xs.map V.int) ∧ xs.length < 1000 ∧
  ∀ (a : Addr) (c : Nat), H a = none → c ≤ xs.length → Q (.ref a) (upd H a (SetO w a (fun j => decide (j ∈ xs)) c))
theorem cr_setT (hc : X.calm = true) : CallR X (.type "set") (rSetT X.K X.w) := by
  intro pins s σ H xs vs Q I r h
  obtain ⟨l, ns, rfl, hl, few, q⟩ := h
  rw [Vals.ref1 r]
  obtain ⟨its, rv, pl, _⟩ := I.tuple hl
  refine call_setT (P := X.prog) (w := X.w) (xs := ns) (I.ok.hd hc) pl (by simpa using rv.ints) (by unfold scanBound; omega) fun s2 ⟨h', tk, c, e, T, lc, k⟩ => ?_
  subst e
  exact ⟨.ref s.heap.objs.size, _, I.laid (t' := tk) k (Nat.le_refl _) (setO_new T), rfl, q _ c (I.hok.fresh (Nat.le_refl _)) lc⟩
end
end G
end

set_option Elab.async false
set_option linter.all false
set_option maxRecDepth 100000
set_option maxHeartbeats 4000000
/-! names of joined rules. -/
namespace G
open PySem PySem.Spec PyProof.Rows L2 StX
theorem stT_step {l : List Nat} {j c : Nat} (nd : l.Nodup) (h : l[j]? = some c) : putK (stK (fun _ => true) (l.take j)) (kN c) (.bl true) = stK (fun _ => true) (l.take (j + 1)) := by
  rw [stK_step nd h]
  congr 1
  funext x
  simp
theorem stT_in {l : List Nat} {c : Nat} : (valV (stK (fun _ => true) l) (kN c)).isSome = decide (c ∈ l) := by
  by_cases h : c ∈ l
  · rw [stK_some h, decide_eq_true h]; rfl
  · rw [stK_none h, decide_eq_false h]; rfl
section
variable {P : Program} {w : World} {K : PySem.W.Frag} {mg : Str → Option Value} {base : Heap} {cJ : JK → Addr}
def spNT (cJ : JK → Addr) (d : Nat) (k : JK) : Sp := fun vs H Q _ => ∃ (x : Addr) (t : RT) (v : V) (m p : Int) (rows : List VR), vs = [.ref x, v] ∧ t.kind = k ∧ t.dep ≤ d ∧ RuleT cJ H x t ∧ TD H v (viewD m p rows) ∧ GoodV rows ∧ ∀ H' tp zs, Same H H' → H' tp = some (.tup (intsN zs)) → NamedT p rows t zs → Q (.ref tp) H'
structure RlsT (P : Program) (w : World) (K : PySem.W.Frag) (mg : Str → Option Value) (base : Heap) (cJ : JK → Addr) (lv d : Nat) : Prop where
  cl : ∀ k, Cls K (cJ k)
  nm : ∀ k, ∃ f fd, Meth K (cJ k) "names" f ∧ FnOk P w K mg base CX0 lv f fd ["self", "view"] (spNT cJ d k) ∧ Binds K fd ["self", "view"] []
theorem ok_nb {f : Addr} {fd : FuncData} {k : RK} {lv : Nat} (h : 2 ≤ lv) (G : FnOk P w K mg base CX0 2 f fd ["self", "view"] (spNm (fun k => cJ (.b k)) k)) (d : Nat) : FnOk P w K mg base CX0 lv f fd ["self", "view"] (spNT cJ d (.b k)) := by
  refine (G.imp fun vs H Q E ⟨x, t, v, m, p, rows, ev, ek, _, hR, td, gv, q⟩ => ?_).mono h
  cases t with
  | bas d => exact ⟨x, d, v, m, p, rows, ev, by cases ek; rfl, hR, td, gv, fun H' tp zs s' gt hn => q H' tp zs s' gt (named_bas gv hn)⟩
  | _ => cases ek
abbrev s_bonames : Stmt := inClass (top 4) 0
abbrev n_jn : List Str := ["self", "view", "others", "cell"]
theorem sc_bonames : FnScope n_jn ["self", "view"] (defScope s_bonames) := ⟨rfl, rfl, rfl, by decide +kernel, rfl, by decide +kernel, by decide +kernel⟩
theorem ok_bonames {f : Addr} {fd : FuncData} {lv d : Nat} (F : Fun K "names" "Both.names" s_bonames f fd) (z_tuple : mg "tuple" = none) (N1 : NoAttr K (cJ .both) "_one") (N2 : NoAttr K (cJ .both) "_other") (Z : RlsT P w K mg base cJ lv d) : FnOk P w K mg base CX0 (lv + 1) f fd ["self", "view"] (spNT cJ (d + 1) .both) := by
  refine F.ok sc_bonames (fun vs H Q E ⟨_, _, _, _, _, _, ev, _⟩ => by rw [ev]; rfl) (fun cdv A outer s H vs Q E hr ⟨x, t, v, m, p, rows, ev, ek, hd, hR, td, gv, q⟩ => ?_)
  subst ev
  have hu : (A.deeper (envOfC "Both.names" (defScope s_bonames) s.heap.objs.size f cdv)).units + 1 < cLine := by have := hr.un; omega
  refine ⟨_, (pss_cons (ps_set (i := 2) sc_bonames.nd rfl (.inr rfl) (pe_dc (g := gName 3) (tt := tYes) (tk := tVar 3) (tv := tC (.bl true)) (own := [("cell", 3)]) rfl sc_bonames.nd (pi_tup (pe_methA (cO := cJ) (sp := spNT cJ d) (pe_fld (pv 0) rfl) (fun k => ⟨Z.cl k, Z.nm k⟩) hr pass0 (pa_cons (pv 1) pa_nil))) (blkOk_by (N := n_jn) (sc := defScope s_bonames) (by decide +kernel)) (fun _ _ _ _ _ => (pg_name (i := 3) sc_bonames.nd rfl (.inl rfl))) (fun _ _ _ _ _ => pts_nil) (fun _ _ _ _ _ => pv 3) (fun _ _ _ _ _ => pe_bl)))
      (pss_one (ps_ret (pe_callTy call_tuple_of (by rfl) z_tuple (by decide +kernel) (pa_cons (pe_lc (tt := tB (tDIn (tVar 3) (tVar 2))) (te := tVar 3) (own := [("cell", 3)]) (by rfl) sc_bonames.nd (pi_tup (pe_methA (cO := cJ) (sp := spNT cJ d) (pe_fld (pv 0) rfl) (fun k => ⟨Z.cl k, Z.nm k⟩) hr pass0 (pa_cons (pv 1) pa_nil))) (blkOk_by (N := n_jn) (sc := defScope s_bonames) (by decide +kernel)) (fun _ _ _ _ _ => (pg_name (i := 3) sc_bonames.nd rfl (.inl rfl))) (fun _ _ _ _ _ => pts_one (pt_cmp (pc_din hu (pv 3) (pv 2)))) (fun _ _ _ _ _ => (pv 3))) pa_nil))))), ?_⟩
  cases t <;> first | cases ek | skip
  rename_i a b
  have hda : a.dep ≤ d := by have : max a.dep b.dep + 1 ≤ d + 1 := hd; omega
  have hdb : b.dep ≤ d := by have : max a.dep b.dep + 1 ≤ d + 1 := hd; omega
  obtain ⟨dx, y, z, hx, ha, hb⟩ := hR
  obtain ⟨dy, fy, gy, ly⟩ := ha.ins
  obtain ⟨dz, fz, gz, lz⟩ := hb.ins
  refine ⟨.ref x, rfl, x, _, dx, _, .ref z, rfl, hx, Z.cl _, N2, rfl, b.kind, z, dz, fz, rfl, gz, lz, _, rfl, z, b, v, m, p, rows, rfl, rfl, hdb, hb, td, gv, fun H1 t1 ys s1 g1 hn1 => ?_⟩
  have ly8 := hn1.len gv
  have ndy : ys.Nodup := hn1.so.imp fun a => Nat.ne_of_lt a
  have eys : (intsN ys).length = ys.length := by unfold intsN; rw [List.length_map]
  refine ⟨t1, rfl, ⟨_, SqT.of g1⟩, fun DO nDO => ?_⟩
  refine dc_tup (xs := intsN ys) (fun i H' => Same H1 H' ∧ H' DO = some (.dK (stK (fun _ => true) (ys.take i)))) ⟨Same.up nDO, upd_same⟩ (fun i H' _ h => SqT.of (h.1 _ _ g1)) ?_ ?_
  · rintro i w0 H' hw ⟨s', gD⟩
    obtain ⟨c, hc, rfl⟩ := ints_at hw
    refine ⟨rfl, _, rfl, _, kN c, rfl, gD, lt_line (by unfold stK; rw [List.length_map, List.length_take]; omega), G.Same.putN s' nDO, ?_⟩
    rw [upd_same, stT_step ndy hc]
  rintro H2 ⟨s2, gD⟩
  rw [eys, List.take_length] at gD
  have s12 := Same.trans s1 s2
  refine ⟨.ref x, rfl, x, _, dx, _, .ref y, rfl, s12 _ _ hx, Z.cl _, N1, rfl, a.kind, y, dy, fy, rfl, s12 _ _ gy, ly, _, rfl, y, a, v, m, p, rows, rfl, rfl, hda, ha.same s12, TD.ch (Ch.same (S := []) s12) _ _ td, gv, fun H3 t3 zs s3 g3 hn3 => ?_⟩
  have lz8 := hn3.len gv
  have ezs : (intsN zs).length = zs.length := by unfold intsN; rw [List.length_map]
  have gD3 := s3 _ _ gD
  refine ⟨t3, rfl, ⟨_, SqT.of g3⟩, fun N nN => ?_⟩
  refine lc_tup (xs := intsN zs) (fun i H' => Same H3 H' ∧ H' N = some (.lst (intsN ((zs.take i).filter (fun c => decide (c ∈ ys)))))) ⟨Same.up nN, upd_same⟩ (fun i H' _ h => SqT.of (h.1 _ _ g3)) ?_ ?_
  · rintro i w0 H' hw ⟨s', gN⟩
    obtain ⟨c, hc, rfl⟩ := ints_at hw
    have hi := (List.getElem?_eq_some_iff.mp hc).1
    have e := filtN_take (p := (fun c => decide (c ∈ ys))) hc
    have ll : (intsN ((zs.take i).filter (fun c => decide (c ∈ ys)))).length < sizeLine := by
      refine lt_line ?_
      unfold intsN
      rw [List.length_map]
      have := List.length_filter_le (fun c => decide (c ∈ ys)) (zs.take i)
      rw [List.length_take] at this
      omega
    refine ⟨rfl, _, rfl, _, rfl, DO, _, rfl, .inl ⟨_, kN c, .inl (s' _ _ gD3), rfl, rfl⟩, _, rfl, ?_⟩
    rw [stT_in]
    by_cases cc : c ∈ ys
    · rw [decide_eq_true cc] at e ⊢
      refine iteT ⟨_, rfl, _, gN, ll, G.Same.putN s' nN, ?_⟩
      rw [upd_same, e, if_pos rfl, intsN_app]; rfl
    · rw [decide_eq_false cc] at e ⊢
      refine iteF ⟨s', ?_⟩
      rw [e, gN]; simp
  · rintro H4 ⟨s4, gN⟩
    rw [ezs, List.take_length] at gN
    refine ⟨N, _, rfl, .inl ⟨SqL.of gN, fun l nl => ?_⟩⟩
    exact q _ l _ (Same.trans s12 (Same.trans s3 (Same.trans s4 (Same.up nl)))) upd_same (named_and hn3 hn1)
abbrev s_wonames : Stmt := inClass (top 6) 0
theorem sc_wonames : FnScope n_jn ["self", "view"] (defScope s_wonames) := ⟨rfl, rfl, rfl, by decide +kernel, rfl, by decide +kernel, by decide +kernel⟩
theorem ok_wonames {f : Addr} {fd : FuncData} {lv d : Nat} (F : Fun K "names" "Without.names" s_wonames f fd) (z_tuple : mg "tuple" = none) (N1 : NoAttr K (cJ .without) "_one") (N2 : NoAttr K (cJ .without) "_other") (Z : RlsT P w K mg base cJ lv d) : FnOk P w K mg base CX0 (lv + 1) f fd ["self", "view"] (spNT cJ (d + 1) .without) := by
  refine F.ok sc_wonames (fun vs H Q E ⟨_, _, _, _, _, _, ev, _⟩ => by rw [ev]; rfl) (fun cdv A outer s H vs Q E hr ⟨x, t, v, m, p, rows, ev, ek, hd, hR, td, gv, q⟩ => ?_)
  subst ev
  have hu : (A.deeper (envOfC "Without.names" (defScope s_wonames) s.heap.objs.size f cdv)).units + 1 < cLine := by have := hr.un; omega
  refine ⟨_, (pss_cons (ps_set (i := 2) sc_wonames.nd rfl (.inr rfl) (pe_dc (g := gName 3) (tt := tYes) (tk := tVar 3) (tv := tC (.bl true)) (own := [("cell", 3)]) rfl sc_wonames.nd (pi_tup (pe_methA (cO := cJ) (sp := spNT cJ d) (pe_fld (pv 0) rfl) (fun k => ⟨Z.cl k, Z.nm k⟩) hr pass0 (pa_cons (pv 1) pa_nil))) (blkOk_by (N := n_jn) (sc := defScope s_wonames) (by decide +kernel)) (fun _ _ _ _ _ => (pg_name (i := 3) sc_wonames.nd rfl (.inl rfl))) (fun _ _ _ _ _ => pts_nil) (fun _ _ _ _ _ => pv 3) (fun _ _ _ _ _ => pe_bl)))
      (pss_one (ps_ret (pe_callTy call_tuple_of (by rfl) z_tuple (by decide +kernel) (pa_cons (pe_lc (tt := tB (tDNotIn (tVar 3) (tVar 2))) (te := tVar 3) (own := [("cell", 3)]) (by rfl) sc_wonames.nd (pi_tup (pe_methA (cO := cJ) (sp := spNT cJ d) (pe_fld (pv 0) rfl) (fun k => ⟨Z.cl k, Z.nm k⟩) hr pass0 (pa_cons (pv 1) pa_nil))) (blkOk_by (N := n_jn) (sc := defScope s_wonames) (by decide +kernel)) (fun _ _ _ _ _ => (pg_name (i := 3) sc_wonames.nd rfl (.inl rfl))) (fun _ _ _ _ _ => pts_one (pt_cmp (pc_dnotin hu (pv 3) (pv 2)))) (fun _ _ _ _ _ => (pv 3))) pa_nil))))), ?_⟩
  cases t <;> first | cases ek | skip
  rename_i a b
  have hda : a.dep ≤ d := by have : max a.dep b.dep + 1 ≤ d + 1 := hd; omega
  have hdb : b.dep ≤ d := by have : max a.dep b.dep + 1 ≤ d + 1 := hd; omega
  obtain ⟨dx, y, z, hx, ha, hb⟩ := hR
  obtain ⟨dy, fy, gy, ly⟩ := ha.ins
  obtain ⟨dz, fz, gz, lz⟩ := hb.ins
  refine ⟨.ref x, rfl, x, _, dx, _, .ref z, rfl, hx, Z.cl _, N2, rfl, b.kind, z, dz, fz, rfl, gz, lz, _, rfl, z, b, v, m, p, rows, rfl, rfl, hdb, hb, td, gv, fun H1 t1 ys s1 g1 hn1 => ?_⟩
  have ly8 := hn1.len gv
  have ndy : ys.Nodup := hn1.so.imp fun a => Nat.ne_of_lt a
  have eys : (intsN ys).length = ys.length := by unfold intsN; rw [List.length_map]
  refine ⟨t1, rfl, ⟨_, SqT.of g1⟩, fun DO nDO => ?_⟩
  refine dc_tup (xs := intsN ys) (fun i H' => Same H1 H' ∧ H' DO = some (.dK (stK (fun _ => true) (ys.take i)))) ⟨Same.up nDO, upd_same⟩ (fun i H' _ h => SqT.of (h.1 _ _ g1)) ?_ ?_
  · rintro i w0 H' hw ⟨s', gD⟩
    obtain ⟨c, hc, rfl⟩ := ints_at hw
    refine ⟨rfl, _, rfl, _, kN c, rfl, gD, lt_line (by unfold stK; rw [List.length_map, List.length_take]; omega), G.Same.putN s' nDO, ?_⟩
    rw [upd_same, stT_step ndy hc]
  rintro H2 ⟨s2, gD⟩
  rw [eys, List.take_length] at gD
  have s12 := Same.trans s1 s2
  refine ⟨.ref x, rfl, x, _, dx, _, .ref y, rfl, s12 _ _ hx, Z.cl _, N1, rfl, a.kind, y, dy, fy, rfl, s12 _ _ gy, ly, _, rfl, y, a, v, m, p, rows, rfl, rfl, hda, ha.same s12, TD.ch (Ch.same (S := []) s12) _ _ td, gv, fun H3 t3 zs s3 g3 hn3 => ?_⟩
  have lz8 := hn3.len gv
  have ezs : (intsN zs).length = zs.length := by unfold intsN; rw [List.length_map]
  have gD3 := s3 _ _ gD
  refine ⟨t3, rfl, ⟨_, SqT.of g3⟩, fun N nN => ?_⟩
  refine lc_tup (xs := intsN zs) (fun i H' => Same H3 H' ∧ H' N = some (.lst (intsN ((zs.take i).filter (fun c => !decide (c ∈ ys)))))) ⟨Same.up nN, upd_same⟩ (fun i H' _ h => SqT.of (h.1 _ _ g3)) ?_ ?_
  · rintro i w0 H' hw ⟨s', gN⟩
    obtain ⟨c, hc, rfl⟩ := ints_at hw
    have hi := (List.getElem?_eq_some_iff.mp hc).1
    have e := filtN_take (p := (fun c => !decide (c ∈ ys))) hc
    have ll : (intsN ((zs.take i).filter (fun c => !decide (c ∈ ys)))).length < sizeLine := by
      refine lt_line ?_
      unfold intsN
      rw [List.length_map]
      have := List.length_filter_le (fun c => !decide (c ∈ ys)) (zs.take i)
      rw [List.length_take] at this
      omega
    refine ⟨rfl, _, rfl, _, rfl, DO, _, rfl, .inl ⟨_, kN c, .inl (s' _ _ gD3), rfl, rfl⟩, _, rfl, ?_⟩
    rw [stT_in]
    by_cases cc : c ∈ ys
    · rw [decide_eq_true cc] at e ⊢
      refine iteF ⟨s', ?_⟩
      rw [e, gN]; simp
    · rw [decide_eq_false cc] at e ⊢
      refine iteT ⟨_, rfl, _, gN, ll, G.Same.putN s' nN, ?_⟩
      rw [upd_same, e, if_pos (show (!false) = true from rfl), intsN_app]; rfl
  · rintro H4 ⟨s4, gN⟩
    rw [ezs, List.take_length] at gN
    refine ⟨N, _, rfl, .inl ⟨SqL.of gN, fun l nl => ?_⟩⟩
    exact q _ l _ (Same.trans s12 (Same.trans s3 (Same.trans s4 (Same.up nl)))) upd_same (named_less hn3 hn1)
end
end G

set_option Elab.async false
set_option linter.all false
set_option maxRecDepth 100000
set_option maxHeartbeats 4000000
/-! names of either rule; all the classes by depth. -/
namespace G
open PySem PySem.Spec PyProof.Rows L2 StX
section
variable {P : Program} {w : World} {K : PySem.W.Frag} {mg : Str → Option Value} {base : Heap} {cJ : JK → Addr}
abbrev s_eonames : Stmt := inClass (top 5) 0
theorem sc_eonames : FnScope n_sv ["self", "view"] (defScope s_eonames) := ⟨rfl, rfl, rfl, by decide +kernel, rfl, by decide +kernel, by decide +kernel⟩
theorem ok_eonames {f : Addr} {fd : FuncData} {lv d : Nat} (F : Fun K "names" "Either.names" s_eonames f fd) (z_tuple : mg "tuple" = none) (z_sorted : mg "sorted" = none) (z_set : mg "set" = none) (N1 : NoAttr K (cJ .either) "_one") (N2 : NoAttr K (cJ .either) "_other") (Z : RlsT P w K mg base cJ lv d) : FnOk P w K mg base CX0 (lv + 1) f fd ["self", "view"] (spNT cJ (d + 1) .either) := by
  refine F.ok sc_eonames (fun vs H Q E ⟨_, _, _, _, _, _, ev, _⟩ => by rw [ev]; rfl) (fun cdv A outer s H vs Q E hr ⟨x, t, v, m, p, rows, ev, ek, hd, hR, td, gv, q⟩ => ?_)
  subst ev
  refine ⟨_, (pss_one (ps_ret (pe_callTy call_tuple_of (by rfl) z_tuple (by decide +kernel) (pa_cons (pe_callB (cr_sortedSet rfl) (by rfl) z_sorted (by decide +kernel) (pa_cons (pe_callTy (cr_setT rfl) (by rfl) z_set (by decide +kernel) (pa_cons (pe_op op_catA (pe_methA (cO := cJ) (sp := spNT cJ d) (pe_fld (pv 0) rfl) (fun k => ⟨Z.cl k, Z.nm k⟩) hr pass0 (pa_cons (pv 1) pa_nil)) (pe_methA (cO := cJ) (sp := spNT cJ d) (pe_fld (pv 0) rfl) (fun k => ⟨Z.cl k, Z.nm k⟩) hr pass0 (pa_cons (pv 1) pa_nil))) pa_nil)) pa_nil)) pa_nil)))), ?_⟩
  cases t <;> first | cases ek | skip
  rename_i a b
  have hda : a.dep ≤ d := by have : max a.dep b.dep + 1 ≤ d + 1 := hd; omega
  have hdb : b.dep ≤ d := by have : max a.dep b.dep + 1 ≤ d + 1 := hd; omega
  obtain ⟨dx, y, z, hx, ha, hb⟩ := hR
  obtain ⟨dy, fy, gy, ly⟩ := ha.ins
  obtain ⟨dz, fz, gz, lz⟩ := hb.ins
  refine ⟨.ref x, rfl, x, _, dx, _, .ref y, rfl, hx, Z.cl _, N1, rfl, a.kind, y, dy, fy, rfl, gy, ly, _, rfl, y, a, v, m, p, rows, rfl, rfl, hda, ha, td, gv, fun H1 t1 zs s1 g1 hn1 => ?_⟩
  refine ⟨.ref x, rfl, x, _, dx, _, .ref z, rfl, s1 _ _ hx, Z.cl _, N2, rfl, b.kind, z, dz, fz, rfl, s1 _ _ gz, lz, _, rfl, z, b, v, m, p, rows, rfl, rfl, hdb, hb.same s1, TD.ch (Ch.same (S := []) s1) _ _ td, gv, fun H2 t2 ys s2 g2 hn2 => ?_⟩
  have l1 := hn1.len gv
  have l2 := hn2.len gv
  have e1 : (intsN zs).length = zs.length := by unfold intsN; rw [List.length_map]
  have e2 : (intsN ys).length = ys.length := by unfold intsN; rw [List.length_map]
  have s12 := Same.trans s1 s2
  have eA : intsN zs ++ intsN ys = intsN (zs ++ ys) := (intsN_app _ _).symm
  have lA : (zs ++ ys).length ≤ 16 := by rw [List.length_append]; omega
  refine ⟨t1, t2, _, _, rfl, rfl, SqT.of (s2 _ _ g1), SqT.of g2, Nat.le_of_lt (lt_line (by omega)), ?_, ?_, ?_⟩
  · intro hz
    have hz : zs = [] := by cases zs with | nil => rfl | cons _ _ => cases hz
    have gT : H2 t2 = some (.tup (intsN (zs ++ ys))) := by rw [hz]; exact g2
    refine ⟨t2, (zs ++ ys).map fun (c : Nat) => (c : Int), rfl, SqT.of (by rw [intsN_cast]; exact gT), by rw [List.length_map]; omega, fun sa sc nsa lsc => nilP ⟨sa, _, sc, rfl, upd_same, by rw [List.length_map] at lsc; omega, fun ns p0 pw hmem hlen np => nilP ?_⟩⟩
    obtain ⟨ms, ems, pwm, hms⟩ := strict_nat2 (l := zs ++ ys) pw fun k => (hmem k).trans decide_eq_true_iff
    rw [ems]
    refine ⟨p0, _, rfl, .inl ⟨SqL.of upd_same, fun l nl => ?_⟩⟩
    exact q _ l ms (Same.trans s12 (Same.trans (Same.up nsa) (Same.trans (Same.up np) (Same.up nl)))) upd_same (named_or hn1 hn2 pwm fun c => (hms c).trans List.mem_append)
  · intro _ hy
    have hy : ys = [] := by cases ys with | nil => rfl | cons _ _ => cases hy
    have gT : H2 t1 = some (.tup (intsN (zs ++ ys))) := by rw [hy, List.append_nil]; exact s2 _ _ g1
    refine ⟨t1, (zs ++ ys).map fun (c : Nat) => (c : Int), rfl, SqT.of (by rw [intsN_cast]; exact gT), by rw [List.length_map]; omega, fun sa sc nsa lsc => nilP ⟨sa, _, sc, rfl, upd_same, by rw [List.length_map] at lsc; omega, fun ns p0 pw hmem hlen np => nilP ?_⟩⟩
    obtain ⟨ms, ems, pwm, hms⟩ := strict_nat2 (l := zs ++ ys) pw fun k => (hmem k).trans decide_eq_true_iff
    rw [ems]
    refine ⟨p0, _, rfl, .inl ⟨SqL.of upd_same, fun l nl => ?_⟩⟩
    exact q _ l ms (Same.trans s12 (Same.trans (Same.up nsa) (Same.trans (Same.up np) (Same.up nl)))) upd_same (named_or hn1 hn2 pwm fun c => (hms c).trans List.mem_append)
  · intro _ _ T nT
    rw [eA]
    have sT := Same.up (o := HO.tup (intsN (zs ++ ys))) nT
    have gT : upd H2 T (HO.tup (intsN (zs ++ ys))) T = some (.tup (intsN (zs ++ ys))) := upd_same
    generalize upd H2 T (HO.tup (intsN (zs ++ ys))) = H3 at sT gT ⊢
    refine ⟨T, (zs ++ ys).map fun (c : Nat) => (c : Int), rfl, SqT.of (by rw [intsN_cast]; exact gT), by rw [List.length_map]; omega, fun sa sc nsa lsc => nilP ⟨sa, _, sc, rfl, upd_same, by rw [List.length_map] at lsc; omega, fun ns p0 pw hmem hlen np => nilP ?_⟩⟩
    obtain ⟨ms, ems, pwm, hms⟩ := strict_nat2 (l := zs ++ ys) pw fun k => (hmem k).trans decide_eq_true_iff
    rw [ems]
    refine ⟨p0, _, rfl, .inl ⟨SqL.of upd_same, fun l nl => ?_⟩⟩
    exact q _ l ms (Same.trans s12 (Same.trans sT (Same.trans (Same.up nsa) (Same.trans (Same.up np) (Same.up nl))))) upd_same (named_or hn1 hn2 pwm fun c => (hms c).trans List.mem_append)
/-- what the joined classes have -/
structure JoinD (K : PySem.W.Frag) (mg : Str → Option Value) (cJ : JK → Addr) : Prop where
  cl : ∀ k, Cls K (cJ k)
  b : ∃ f fd, Meth K (cJ .both) "names" f ∧ Fun K "names" "Both.names" s_bonames f fd ∧ Binds K fd ["self", "view"] []
  e : ∃ f fd, Meth K (cJ .either) "names" f ∧ Fun K "names" "Either.names" s_eonames f fd ∧ Binds K fd ["self", "view"] []
  w : ∃ f fd, Meth K (cJ .without) "names" f ∧ Fun K "names" "Without.names" s_wonames f fd ∧ Binds K fd ["self", "view"] []
  n1 : NoAttr K (cJ .both) "_one" ∧ NoAttr K (cJ .both) "_other"
  n2 : NoAttr K (cJ .either) "_one" ∧ NoAttr K (cJ .either) "_other"
  n3 : NoAttr K (cJ .without) "_one" ∧ NoAttr K (cJ .without) "_other"
theorem rls_all (J : JoinD K mg cJ) (z_tuple : mg "tuple" = none) (z_sorted : mg "sorted" = none) (z_set : mg "set" = none) (Z : Rls P w K mg base (fun k => cJ (.b k))) : ∀ d : Nat, RlsT P w K mg base cJ (2 + d) d
  | 0 => by
    refine ⟨J.cl, fun k => ?_⟩
    cases k with
    | b k =>
      obtain ⟨f, fd, m, F, b⟩ := Z.nm k
      exact ⟨f, fd, m, ok_nb (Nat.le_refl _) F 0, b⟩
    | both =>
      obtain ⟨f, fd, m, F, b⟩ := J.b
      refine ⟨f, fd, m, (show FnOk P w K mg base CX0 2 f fd ["self", "view"] (fun _ _ _ _ => False) from ⟨fun _ _ _ _ h => h.elim, fun _ _ _ _ _ _ _ _ _ _ _ _ _ h => h.elim⟩).imp fun vs H Q E ⟨x, t, v, m, p, rows, ev, ek, hd, _⟩ => ?_, b⟩
      cases t <;> first | exact absurd hd (Nat.not_succ_le_zero _) | cases ek
    | either =>
      obtain ⟨f, fd, m, F, b⟩ := J.e
      refine ⟨f, fd, m, (show FnOk P w K mg base CX0 2 f fd ["self", "view"] (fun _ _ _ _ => False) from ⟨fun _ _ _ _ h => h.elim, fun _ _ _ _ _ _ _ _ _ _ _ _ _ h => h.elim⟩).imp fun vs H Q E ⟨x, t, v, m, p, rows, ev, ek, hd, _⟩ => ?_, b⟩
      cases t <;> first | exact absurd hd (Nat.not_succ_le_zero _) | cases ek
    | without =>
      obtain ⟨f, fd, m, F, b⟩ := J.w
      refine ⟨f, fd, m, (show FnOk P w K mg base CX0 2 f fd ["self", "view"] (fun _ _ _ _ => False) from ⟨fun _ _ _ _ h => h.elim, fun _ _ _ _ _ _ _ _ _ _ _ _ _ h => h.elim⟩).imp fun vs H Q E ⟨x, t, v, m, p, rows, ev, ek, hd, _⟩ => ?_, b⟩
      cases t <;> first | exact absurd hd (Nat.not_succ_le_zero _) | cases ek
  | d + 1 => by
    have R := rls_all J z_tuple z_sorted z_set Z d
    refine ⟨J.cl, fun k => ?_⟩
    cases k with
    | b k =>
      obtain ⟨f, fd, m, F, b⟩ := Z.nm k
      exact ⟨f, fd, m, ok_nb (by omega) F (d + 1), b⟩
    | both =>
      obtain ⟨f, fd, m, F, b⟩ := J.b
      exact ⟨f, fd, m, ok_bonames F z_tuple J.n1.1 J.n1.2 R, b⟩
    | either =>
      obtain ⟨f, fd, m, F, b⟩ := J.e
      exact ⟨f, fd, m, ok_eonames F z_tuple z_sorted z_set J.n2.1 J.n2.2 R, b⟩
    | without =>
      obtain ⟨f, fd, m, F, b⟩ := J.w
      exact ⟨f, fd, m, ok_wonames F z_tuple J.n3.1 J.n3.2 R, b⟩
end
end G

set_option Elab.async false
set_option linter.all false
set_option maxRecDepth 100000
set_option maxHeartbeats 4000000
/-! _law_named of any rule. -/
namespace G
open PySem PySem.Spec PyProof.Rows L2 StX
theorem fnok_or {P : Program} {w : World} {K : PySem.W.Frag} {mg : Str → Option Value} {base : Heap} {k : Nat} {f : Addr} {fd : FuncData} {ps : List Str} {s1 s2 : Sp} (a : FnOk P w K mg base CX0 k f fd ps s1) (b : FnOk P w K mg base CX0 k f fd ps s2) : FnOk P w K mg base CX0 k f fd ps (fun vs H Q E => s1 vs H Q E ∨ s2 vs H Q E) :=
  ⟨fun vs H Q E h => h.elim (a.len vs H Q E) (b.len vs H Q E), fun A o s H ar us vs Q E hr e0 hb r h => h.elim (a.run A o s H ar us vs Q E hr e0 hb r) (b.run A o s H ar us vs Q E hr e0 hb r)⟩
section
variable {P : Program} {w : World} {K : PySem.W.Frag} {mg : Str → Option Value} {base : Heap}
def RT.joined : RT → Bool
  | .bas _ => false
  | _ => true
def spNaT (d : Nat) : Sp := fun vs H Q _ => ∃ (x : Addr) (t : RT) (v : V) (m p : Int) (rows : List VR), vs = [.ref x, v] ∧ t.dep ≤ d ∧ ToldT H x t ∧ TD H v (viewD m p rows) ∧ GoodV rows ∧ ∀ H' L zs, Same H H' → H' L = some (.lst (intsN zs)) → NamedT p rows t zs → Q (.ref L) H'
def spNaJ (d : Nat) : Sp := fun vs H Q _ => ∃ (x : Addr) (t : RT) (v : V) (m p : Int) (rows : List VR), vs = [.ref x, v] ∧ t.dep ≤ d ∧ t.joined = true ∧ ToldT H x t ∧ TD H v (viewD m p rows) ∧ GoodV rows ∧ ∀ H' L zs, Same H H' → H' L = some (.lst (intsN zs)) → NamedT p rows t zs → Q (.ref L) H'
theorem ok_naB {f : Addr} {fd : FuncData} (G : FnOk P w K mg base CX0 2 f fd ["_law_told", "_law_view_here"] spNa) {lv d : Nat} (h : 2 ≤ lv) (GJ : FnOk P w K mg base CX0 lv f fd ["_law_told", "_law_view_here"] (spNaJ d)) : FnOk P w K mg base CX0 lv f fd ["_law_told", "_law_view_here"] (spNaT d) := by
  refine (fnok_or (G.mono h) GJ).imp fun vs H Q E ⟨x, t, v, m, p, rows, ev, hd, hT, td, gv, q⟩ => ?_
  cases t with
  | bas d => exact .inl ⟨x, d, v, m, p, rows, ev, hT, td, gv, fun H' L zs s' gt hn => q H' L zs s' gt (named_bas gv hn)⟩
  | and a b => exact .inr ⟨x, _, v, m, p, rows, ev, hd, rfl, hT, td, gv, q⟩
  | or a b => exact .inr ⟨x, _, v, m, p, rows, ev, hd, rfl, hT, td, gv, q⟩
  | less a b => exact .inr ⟨x, _, v, m, p, rows, ev, hd, rfl, hT, td, gv, q⟩
theorem ok_naJ {f : Addr} {fd : FuncData} {lv d : Nat} (DN : Df K mg "_law_named" s__law_named ["_law_told", "_law_view_here"] f fd) (z_sorted : mg "sorted" = none) (z_set : mg "set" = none) (GG : FnOk P w K mg base CX0 lv f fd ["_law_told", "_law_view_here"] (spNaT d)) : FnOk P w K mg base CX0 (lv + 1) f fd ["_law_told", "_law_view_here"] (spNaJ (d + 1)) := by
  refine DN.F.ok sc__law_named (fun vs H Q E ⟨_, _, _, _, _, _, ev, _⟩ => by rw [ev]; rfl) (fun cdv A outer s H vs Q E hr ⟨x, t, v, m, p, rows, ev, hd, ej, hT, td, gv, q⟩ => ?_)
  subst ev
  refine ⟨_, (pss_cons (ps_asg (pv 0) (pg_tup rfl (pgs_cons (pg_name (i := 2) sc__law_named.nd rfl (.inr rfl)) (pgs_cons (pg_name (i := 3) sc__law_named.nd rfl (.inl rfl)) pgs_nil))))
      (pss_cons (ps_set (i := 4) sc__law_named.nd rfl (.inl rfl) (pe_ix ix_tup (pv 1) pe_int (fun _ _ => rfl)))
      (pss_cons (ps_if (pt_cmpR op_in_seq (pv 2) (pe_tup (pa_cons pe_str (pa_cons pe_str (pa_cons pe_str pa_nil)))) (by rfl))
      (pss_cons (ps_asg (pe_tup (pa_cons (pe_call GG hr (by rfl) DN.m DN.F.kp DN.b .nil pass0 (pa_cons (pe_ix ix_tup (pv 3) pe_int (fun _ _ => rfl)) (pa_cons (pv 1) pa_nil))) (pa_cons (pe_call GG hr (by rfl) DN.m DN.F.kp DN.b .nil pass0 (pa_cons (pe_ix ix_tup (pv 3) pe_int (fun _ _ => rfl)) (pa_cons (pv 1) pa_nil))) pa_nil))) (pg_tup rfl (pgs_cons (pg_name (i := 5) sc__law_named.nd rfl (.inl rfl)) (pgs_cons (pg_name (i := 6) sc__law_named.nd rfl (.inr rfl)) pgs_nil))))
      (pss_cons (ps_if (pt_cmpR op_eq (pv 2) pe_str (nomark _))
      (pss_one (ps_ret (pe_callB (cr_sortedSet rfl) (by rfl) z_sorted (by decide +kernel) (pa_cons (pe_callTy (cr_setI rfl) (by rfl) z_set (by decide +kernel) (pa_cons (pe_op op_cat (pv 5) (pv 6)) pa_nil)) pa_nil))))
      pss_nil)
      (pss_one (ps_ret (pe_lc (tt := tTest (tOp rEq (tOp (rIn K false) (tVar 7) (tVar 6)) (tOp rEq (tVar 2) (tC (.str "and"))))) (te := tVar 7) (own := [("_law_cell", 7)]) (by rfl) sc__law_named.nd (pi_list (pv 5)) (blkOk_by (N := n__law_named) (sc := defScope s__law_named) (by decide +kernel)) (fun _ _ _ _ _ => (pg_name (i := 7) sc__law_named.nd rfl (.inl rfl))) (fun _ _ _ _ _ => pts_one (pt_cmpR op_eq (pe_cmpR op_in_seq (pv 7) (pv 6) (by rfl)) (pe_cmpR op_eq (pv 2) pe_str (nomark _)) (nomark _))) (fun _ _ _ _ _ => (pv 7)))))))
      pss_nil)
      pss_never))), ?_⟩
  obtain ⟨r, rr, rvs, rfl, gr, grr, tds⟩ := view_at td
  cases t with
  | bas d => cases ej
  | and a b =>
    have hda : a.dep ≤ d := by have : max a.dep b.dep + 1 ≤ d + 1 := hd; omega
    have hdb : b.dep ≤ d := by have : max a.dep b.dep + 1 ≤ d + 1 := hd; omega
    obtain ⟨q0, y, z, gx, gq0, ha, hb⟩ := hT
    refine ⟨_, rfl, x, _, rfl, SqT.of gx, rfl, _, _, rfl, _, _, rfl, rfl, ?_⟩
    refine ⟨_, rfl, r, _, _, _, rfl, rfl, SqT.of gr, atI_nat (j := 2) rfl, ?_⟩
    refine ⟨_, rfl, line1000 (Nat.le_of_ble_eq_true rfl), fun p3 n3 => ?_⟩
    have s3 := Same.up (o := HO.tup [.str "and", .str "or", .str "less"]) n3
    have g3 : upd H p3 (HO.tup [.str "and", .str "or", .str "less"]) p3 = some (HO.tup [.str "and", .str "or", .str "less"]) := upd_same
    generalize upd H p3 (HO.tup [.str "and", .str "or", .str "less"]) = H1 at s3 g3 ⊢
    refine ⟨p3, _, rfl, .inr (SqT.of g3), rfl, rfl, _, rfl, ?_⟩
    have iv : inV (.str "and") [.str "and", .str "or", .str "less"] = true := by decide +kernel
    rw [iv]
    refine iteT ?_
    refine ⟨_, rfl, q0, _, _, _, rfl, rfl, SqT.of (s3 _ _ gq0), atI_nat (j := 0) rfl, _, rfl, y, a, _, m, p, rows, rfl, hda, ha.same s3, TD.ch (Ch.same (S := []) s3) _ _ td, gv, fun H2 L1 zs s4 gL1 hn1 => ?_⟩
    have s34 := Same.trans s3 s4
    refine ⟨_, rfl, q0, _, _, _, rfl, rfl, SqT.of (s34 _ _ gq0), atI_nat (j := 1) rfl, _, rfl, z, b, _, m, p, rows, rfl, hdb, hb.same s34, TD.ch (Ch.same (S := []) s34) _ _ td, gv, fun H3 L2 ys s5 gL2 hn2 => ⟨line1000 (Nat.le_of_ble_eq_true rfl), fun p6 n6 => ?_⟩⟩
    have s6 := Same.up (o := HO.tup [.ref L1, .ref L2]) n6
    have gL1 := s6 _ _ (s5 _ _ gL1)
    have gL2 := s6 _ _ gL2
    have s36 := Same.trans s34 (Same.trans s5 s6)
    refine ⟨p6, _, rfl, SqT.of upd_same, rfl, _, _, rfl, _, _, rfl, rfl, ?_⟩
    generalize upd H3 p6 (HO.tup [.ref L1, .ref L2]) = H4 at gL1 gL2 s36 ⊢
    clear s6 n6 s5 s34 s4 s3 g3 n3
    have l1 := hn1.len gv
    have l2 := hn2.len gv
    have e1 : (intsN zs).length = zs.length := by unfold intsN; rw [List.length_map]
    have e2 : (intsN ys).length = ys.length := by unfold intsN; rw [List.length_map]
    refine ⟨_, rfl, rfl, _, rfl, ?_⟩
    rw [decide_eq_false (by decide +kernel : ¬ V.str "and" = V.str "or")]
    refine iteF ⟨_, rfl, L1, rfl, ⟨_, SqL.of gL1⟩, fun N nN => ?_⟩
    refine lc_list (xs := intsN zs) (fun i H' => Same H4 H' ∧ H' N = some (.lst (intsN ((zs.take i).filter (fun c => decide (c ∈ ys)))))) ⟨Same.up nN, upd_same⟩ (fun i H' _ h => SqL.of (h.1 _ _ gL1)) ?_ ?_
    · rintro i w0 H' hw ⟨s', gN⟩
      obtain ⟨c, hc, rfl⟩ := ints_at hw
      have hi := (List.getElem?_eq_some_iff.mp hc).1
      have e := filtN_take (p := (fun c => decide (c ∈ ys))) hc
      have ll : (intsN ((zs.take i).filter (fun c => decide (c ∈ ys)))).length < sizeLine := by
        refine lt_line ?_
        unfold intsN
        rw [List.length_map]
        have := List.length_filter_le (fun c => decide (c ∈ ys)) (zs.take i)
        rw [List.length_take] at this
        omega
      refine ⟨rfl, _, rfl, _, rfl, L2, _, rfl, .inl (SqL.of (s' _ _ gL2)), rfl, flat_intsN ys, ?_⟩
      rw [inV_nat, if_neg Bool.false_ne_true]
      refine ⟨_, rfl, rfl, rfl, _, rfl, ?_⟩
      by_cases cc : c ∈ ys
      · rw [decide_eq_true cc] at e ⊢
        rw [decide_eq_true (by decide +kernel)]
        refine iteT ⟨_, rfl, _, gN, ll, G.Same.putN s' nN, ?_⟩
        rw [upd_same, e, if_pos rfl, intsN_app]; rfl
      · rw [decide_eq_false cc] at e ⊢
        rw [decide_eq_false (by decide +kernel)]
        refine iteF ⟨s', ?_⟩
        rw [e, gN]; simp
    · rintro H5 ⟨s5, gN⟩
      rw [e1, List.take_length] at gN
      exact q _ N _ (Same.trans s36 s5) gN (named_and hn1 hn2)
  | or a b =>
    have hda : a.dep ≤ d := by have : max a.dep b.dep + 1 ≤ d + 1 := hd; omega
    have hdb : b.dep ≤ d := by have : max a.dep b.dep + 1 ≤ d + 1 := hd; omega
    obtain ⟨q0, y, z, gx, gq0, ha, hb⟩ := hT
    refine ⟨_, rfl, x, _, rfl, SqT.of gx, rfl, _, _, rfl, _, _, rfl, rfl, ?_⟩
    refine ⟨_, rfl, r, _, _, _, rfl, rfl, SqT.of gr, atI_nat (j := 2) rfl, ?_⟩
    refine ⟨_, rfl, line1000 (Nat.le_of_ble_eq_true rfl), fun p3 n3 => ?_⟩
    have s3 := Same.up (o := HO.tup [.str "and", .str "or", .str "less"]) n3
    have g3 : upd H p3 (HO.tup [.str "and", .str "or", .str "less"]) p3 = some (HO.tup [.str "and", .str "or", .str "less"]) := upd_same
    generalize upd H p3 (HO.tup [.str "and", .str "or", .str "less"]) = H1 at s3 g3 ⊢
    refine ⟨p3, _, rfl, .inr (SqT.of g3), rfl, rfl, _, rfl, ?_⟩
    have iv : inV (.str "or") [.str "and", .str "or", .str "less"] = true := by decide +kernel
    rw [iv]
    refine iteT ?_
    refine ⟨_, rfl, q0, _, _, _, rfl, rfl, SqT.of (s3 _ _ gq0), atI_nat (j := 0) rfl, _, rfl, y, a, _, m, p, rows, rfl, hda, ha.same s3, TD.ch (Ch.same (S := []) s3) _ _ td, gv, fun H2 L1 zs s4 gL1 hn1 => ?_⟩
    have s34 := Same.trans s3 s4
    refine ⟨_, rfl, q0, _, _, _, rfl, rfl, SqT.of (s34 _ _ gq0), atI_nat (j := 1) rfl, _, rfl, z, b, _, m, p, rows, rfl, hdb, hb.same s34, TD.ch (Ch.same (S := []) s34) _ _ td, gv, fun H3 L2 ys s5 gL2 hn2 => ⟨line1000 (Nat.le_of_ble_eq_true rfl), fun p6 n6 => ?_⟩⟩
    have s6 := Same.up (o := HO.tup [.ref L1, .ref L2]) n6
    have gL1 := s6 _ _ (s5 _ _ gL1)
    have gL2 := s6 _ _ gL2
    have s36 := Same.trans s34 (Same.trans s5 s6)
    refine ⟨p6, _, rfl, SqT.of upd_same, rfl, _, _, rfl, _, _, rfl, rfl, ?_⟩
    generalize upd H3 p6 (HO.tup [.ref L1, .ref L2]) = H4 at gL1 gL2 s36 ⊢
    clear s6 n6 s5 s34 s4 s3 g3 n3
    have l1 := hn1.len gv
    have l2 := hn2.len gv
    have e1 : (intsN zs).length = zs.length := by unfold intsN; rw [List.length_map]
    have e2 : (intsN ys).length = ys.length := by unfold intsN; rw [List.length_map]
    refine ⟨_, rfl, rfl, _, rfl, ?_⟩
    rw [decide_eq_true rfl]
    refine iteT ?_
    have eA : intsN zs ++ intsN ys = intsN (zs ++ ys) := (intsN_app _ _).symm
    have lA : (zs ++ ys).length ≤ 16 := by rw [List.length_append]; omega
    refine ⟨_, rfl, _, rfl, L1, L2, _, _, rfl, rfl, gL1, gL2, Nat.le_of_lt (lt_line (by omega)), fun T nT => ?_⟩
    rw [eA]
    have sT := Same.up (o := HO.lst (intsN (zs ++ ys))) nT
    have gT : upd H4 T (HO.lst (intsN (zs ++ ys))) T = some (.lst (intsN (zs ++ ys))) := upd_same
    generalize upd H4 T (HO.lst (intsN (zs ++ ys))) = H5 at sT gT ⊢
    refine ⟨T, (zs ++ ys).map fun (c : Nat) => (c : Int), rfl, SqL.of (by rw [intsN_cast]; exact gT), by rw [List.length_map]; omega, fun sa sc nsa lsc => nilP ⟨sa, _, sc, rfl, upd_same, by rw [List.length_map] at lsc; omega, fun ns p0 pw hmem hlen np => ?_⟩⟩
    obtain ⟨ms, ems, pwm, hms⟩ := strict_nat2 (l := zs ++ ys) pw fun k => (hmem k).trans decide_eq_true_iff
    rw [ems]
    exact q _ p0 ms (Same.trans s36 (Same.trans sT (Same.trans (Same.up nsa) (Same.up np)))) upd_same (named_or hn1 hn2 pwm fun c => (hms c).trans List.mem_append)
  | less a b =>
    have hda : a.dep ≤ d := by have : max a.dep b.dep + 1 ≤ d + 1 := hd; omega
    have hdb : b.dep ≤ d := by have : max a.dep b.dep + 1 ≤ d + 1 := hd; omega
    obtain ⟨q0, y, z, gx, gq0, ha, hb⟩ := hT
    refine ⟨_, rfl, x, _, rfl, SqT.of gx, rfl, _, _, rfl, _, _, rfl, rfl, ?_⟩
    refine ⟨_, rfl, r, _, _, _, rfl, rfl, SqT.of gr, atI_nat (j := 2) rfl, ?_⟩
    refine ⟨_, rfl, line1000 (Nat.le_of_ble_eq_true rfl), fun p3 n3 => ?_⟩
    have s3 := Same.up (o := HO.tup [.str "and", .str "or", .str "less"]) n3
    have g3 : upd H p3 (HO.tup [.str "and", .str "or", .str "less"]) p3 = some (HO.tup [.str "and", .str "or", .str "less"]) := upd_same
    generalize upd H p3 (HO.tup [.str "and", .str "or", .str "less"]) = H1 at s3 g3 ⊢
    refine ⟨p3, _, rfl, .inr (SqT.of g3), rfl, rfl, _, rfl, ?_⟩
    have iv : inV (.str "less") [.str "and", .str "or", .str "less"] = true := by decide +kernel
    rw [iv]
    refine iteT ?_
    refine ⟨_, rfl, q0, _, _, _, rfl, rfl, SqT.of (s3 _ _ gq0), atI_nat (j := 0) rfl, _, rfl, y, a, _, m, p, rows, rfl, hda, ha.same s3, TD.ch (Ch.same (S := []) s3) _ _ td, gv, fun H2 L1 zs s4 gL1 hn1 => ?_⟩
    have s34 := Same.trans s3 s4
    refine ⟨_, rfl, q0, _, _, _, rfl, rfl, SqT.of (s34 _ _ gq0), atI_nat (j := 1) rfl, _, rfl, z, b, _, m, p, rows, rfl, hdb, hb.same s34, TD.ch (Ch.same (S := []) s34) _ _ td, gv, fun H3 L2 ys s5 gL2 hn2 => ⟨line1000 (Nat.le_of_ble_eq_true rfl), fun p6 n6 => ?_⟩⟩
    have s6 := Same.up (o := HO.tup [.ref L1, .ref L2]) n6
    have gL1 := s6 _ _ (s5 _ _ gL1)
    have gL2 := s6 _ _ gL2
    have s36 := Same.trans s34 (Same.trans s5 s6)
    refine ⟨p6, _, rfl, SqT.of upd_same, rfl, _, _, rfl, _, _, rfl, rfl, ?_⟩
    generalize upd H3 p6 (HO.tup [.ref L1, .ref L2]) = H4 at gL1 gL2 s36 ⊢
    clear s6 n6 s5 s34 s4 s3 g3 n3
    have l1 := hn1.len gv
    have l2 := hn2.len gv
    have e1 : (intsN zs).length = zs.length := by unfold intsN; rw [List.length_map]
    have e2 : (intsN ys).length = ys.length := by unfold intsN; rw [List.length_map]
    refine ⟨_, rfl, rfl, _, rfl, ?_⟩
    rw [decide_eq_false (by decide +kernel : ¬ V.str "less" = V.str "or")]
    refine iteF ⟨_, rfl, L1, rfl, ⟨_, SqL.of gL1⟩, fun N nN => ?_⟩
    refine lc_list (xs := intsN zs) (fun i H' => Same H4 H' ∧ H' N = some (.lst (intsN ((zs.take i).filter (fun c => !decide (c ∈ ys)))))) ⟨Same.up nN, upd_same⟩ (fun i H' _ h => SqL.of (h.1 _ _ gL1)) ?_ ?_
    · rintro i w0 H' hw ⟨s', gN⟩
      obtain ⟨c, hc, rfl⟩ := ints_at hw
      have hi := (List.getElem?_eq_some_iff.mp hc).1
      have e := filtN_take (p := (fun c => !decide (c ∈ ys))) hc
      have ll : (intsN ((zs.take i).filter (fun c => !decide (c ∈ ys)))).length < sizeLine := by
        refine lt_line ?_
        unfold intsN
        rw [List.length_map]
        have := List.length_filter_le (fun c => !decide (c ∈ ys)) (zs.take i)
        rw [List.length_take] at this
        omega
      refine ⟨rfl, _, rfl, _, rfl, L2, _, rfl, .inl (SqL.of (s' _ _ gL2)), rfl, flat_intsN ys, ?_⟩
      rw [inV_nat, if_neg Bool.false_ne_true]
      refine ⟨_, rfl, rfl, rfl, _, rfl, ?_⟩
      by_cases cc : c ∈ ys
      · rw [decide_eq_true cc] at e ⊢
        rw [decide_eq_false (by decide +kernel)]
        refine iteF ⟨s', ?_⟩
        rw [e, gN]; simp
      · rw [decide_eq_false cc] at e ⊢
        rw [decide_eq_true (by decide +kernel)]
        refine iteT ⟨_, rfl, _, gN, ll, G.Same.putN s' nN, ?_⟩
        rw [upd_same, e, if_pos (show (!false) = true from rfl), intsN_app]; rfl
    · rintro H5 ⟨s5, gN⟩
      rw [e1, List.take_length] at gN
      exact q _ N _ (Same.trans s36 s5) gN (named_less hn1 hn2)
theorem ok_naAll {f : Addr} {fd : FuncData} (DN : Df K mg "_law_named" s__law_named ["_law_told", "_law_view_here"] f fd) (z_sorted : mg "sorted" = none) (z_set : mg "set" = none) (G : FnOk P w K mg base CX0 2 f fd ["_law_told", "_law_view_here"] spNa) : ∀ d : Nat, FnOk P w K mg base CX0 (2 + d) f fd ["_law_told", "_law_view_here"] (spNaT d)
  | 0 => ok_naB G (Nat.le_refl _) ((show FnOk P w K mg base CX0 2 f fd ["_law_told", "_law_view_here"] (fun _ _ _ _ => False) from ⟨fun _ _ _ _ h => h.elim, fun _ _ _ _ _ _ _ _ _ _ _ _ _ h => h.elim⟩).imp fun vs H Q E ⟨x, t, v, m, p, rows, ev, hd, ej, _⟩ => by
      cases t <;> first | exact absurd hd (Nat.not_succ_le_zero _) | cases ej)
  | d + 1 => ok_naB G (by omega) (ok_naJ DN z_sorted z_set (ok_naAll DN z_sorted z_set G d))
end
end G

set_option Elab.async false
set_option linter.all false
set_option maxRecDepth 100000
set_option maxHeartbeats 4000000
/-! making joined rules; operators. -/
namespace G
open PySem PySem.Spec PyProof.Rows L2 StX
section
variable {P : Program} {w : World} {K : PySem.W.Frag} {mg : Str → Option Value} {base : Heap} {cJ : JK → Addr} {C : Addr}
abbrev s_jinit : Stmt := inClass (top 3) 0
abbrev n_jinit : List Str := ["self", "one", "other"]
theorem sc_jinit : FnScope n_jinit ["self", "one", "other"] (defScope s_jinit) := ⟨rfl, rfl, rfl, by decide +kernel, rfl, by decide +kernel, by decide +kernel⟩
def spJI (C : Addr) : Sp := fun vs H Q _ => ∃ (x dx : Addr) (a b : V), vs = [.ref x, a, b] ∧ H x = some (.ins C dx []) ∧ Q .non (upd (upd H x (.ins C dx [("_one", a)])) x (.ins C dx [("_one", a), ("_other", b)]))
theorem ok_ji {f : Addr} {fd : FuncData} (F : Fun K "__init__" "Joined.__init__" s_jinit f fd) (c : Cls K C) (N1 : NoAttr K C "_one") (N2 : NoAttr K C "_other") : FnOk P w K mg base CX0 1 f fd ["self", "one", "other"] (spJI C) := by
  refine F.ok sc_jinit (fun vs H Q E ⟨_, _, _, _, ev, _⟩ => by rw [ev]; rfl) (fun cdv A outer s H vs Q E hr ⟨x, dx, a, b, ev, hx, q⟩ => ?_)
  subst ev
  exact ⟨_, (pss_cons (ps_fld (pv 0) (pv 1) rfl) (pss_one (ps_fld (pv 0) (pv 2) rfl))), _, rfl, _, rfl, x, C, dx, [], rfl, hx, c, N1, by decide, _, rfl, _, rfl, x, C, dx, _, rfl, upd_same, c, N2, (show 1 < 1000 by decide), q⟩
/-- x op y: a new joined rule -/
def spOp (cJ : JK → Addr) (k : JK) : Sp := fun vs H Q _ => ∃ (x y : V), vs = [x, y] ∧ ∀ H' r dx, Same H H' → H' r = some (.ins (cJ k) dx [("_one", x), ("_other", y)]) → Q (.ref r) H'
abbrev n_op : List Str := ["self", "other"]
/-- what a joined class has to be made -/
structure MkJ (P : Program) (w : World) (K : PySem.W.Frag) (mg : Str → Option Value) (base : Heap) (C : Addr) (x : Str) : Prop where
  g : mg x = some (.ref C)
  m : ∃ f fd, Mk K C f ∧ FnOk P w K mg base CX0 1 f fd ["self", "one", "other"] (spJI C) ∧ Binds K fd ["self", "one", "other"] []
abbrev s_oand : Stmt := inClass (top 2) 2
theorem sc_oand : FnScope n_op ["self", "other"] (defScope s_oand) := ⟨rfl, rfl, rfl, by decide +kernel, rfl, by decide +kernel, by decide +kernel⟩
theorem ok_oand {f : Addr} {fd : FuncData} (F : Fun K "__and__" "Rule.__and__" s_oand f fd) (M : MkJ P w K mg base (cJ .both) "Both") : FnOk P w K mg base CX0 3 f fd ["self", "other"] (spOp cJ .both) := by
  obtain ⟨fI, dI, mk, GI, BI⟩ := M.m
  refine F.ok sc_oand (fun vs H Q E ⟨_, _, ev, _⟩ => by rw [ev]; rfl) (fun cdv A outer s H vs Q E hr ⟨x, y, ev, q⟩ => ?_)
  subst ev
  refine ⟨_, (pss_one (ps_ret (pe_make mk GI hr (by rfl) M.g BI .nil pass0 (pa_cons (pv 0) (pa_cons (pv 1) pa_nil))))), ?_⟩
  refine ⟨_, rfl, _, rfl, fun r dx hr hdx ne => ⟨r, dx, _, _, rfl, upd_same, rfl, q _ r dx ?_ upd_same⟩⟩
  intro b o h
  have e1 : b ≠ r := fun z => by rw [z, hr] at h; cases h
  have e2 : b ≠ dx := fun z => by rw [z, hdx] at h; cases h
  rw [upd_ne e1, upd_ne e1, upd_ne e1, upd_ne e2]
  exact h
abbrev s_oor : Stmt := inClass (top 2) 3
theorem sc_oor : FnScope n_op ["self", "other"] (defScope s_oor) := ⟨rfl, rfl, rfl, by decide +kernel, rfl, by decide +kernel, by decide +kernel⟩
theorem ok_oor {f : Addr} {fd : FuncData} (F : Fun K "__or__" "Rule.__or__" s_oor f fd) (M : MkJ P w K mg base (cJ .either) "Either") : FnOk P w K mg base CX0 3 f fd ["self", "other"] (spOp cJ .either) := by
  obtain ⟨fI, dI, mk, GI, BI⟩ := M.m
  refine F.ok sc_oor (fun vs H Q E ⟨_, _, ev, _⟩ => by rw [ev]; rfl) (fun cdv A outer s H vs Q E hr ⟨x, y, ev, q⟩ => ?_)
  subst ev
  refine ⟨_, (pss_one (ps_ret (pe_make mk GI hr (by rfl) M.g BI .nil pass0 (pa_cons (pv 0) (pa_cons (pv 1) pa_nil))))), ?_⟩
  refine ⟨_, rfl, _, rfl, fun r dx hr hdx ne => ⟨r, dx, _, _, rfl, upd_same, rfl, q _ r dx ?_ upd_same⟩⟩
  intro b o h
  have e1 : b ≠ r := fun z => by rw [z, hr] at h; cases h
  have e2 : b ≠ dx := fun z => by rw [z, hdx] at h; cases h
  rw [upd_ne e1, upd_ne e1, upd_ne e1, upd_ne e2]
  exact h
abbrev s_osub : Stmt := inClass (top 2) 4
theorem sc_osub : FnScope n_op ["self", "other"] (defScope s_osub) := ⟨rfl, rfl, rfl, by decide +kernel, rfl, by decide +kernel, by decide +kernel⟩
theorem ok_osub {f : Addr} {fd : FuncData} (F : Fun K "__sub__" "Rule.__sub__" s_osub f fd) (M : MkJ P w K mg base (cJ .without) "Without") : FnOk P w K mg base CX0 3 f fd ["self", "other"] (spOp cJ .without) := by
  obtain ⟨fI, dI, mk, GI, BI⟩ := M.m
  refine F.ok sc_osub (fun vs H Q E ⟨_, _, ev, _⟩ => by rw [ev]; rfl) (fun cdv A outer s H vs Q E hr ⟨x, y, ev, q⟩ => ?_)
  subst ev
  refine ⟨_, (pss_one (ps_ret (pe_make mk GI hr (by rfl) M.g BI .nil pass0 (pa_cons (pv 0) (pa_cons (pv 1) pa_nil))))), ?_⟩
  refine ⟨_, rfl, _, rfl, fun r dx hr hdx ne => ⟨r, dx, _, _, rfl, upd_same, rfl, q _ r dx ?_ upd_same⟩⟩
  intro b o h
  have e1 : b ≠ r := fun z => by rw [z, hr] at h; cases h
  have e2 : b ≠ dx := fun z => by rw [z, hdx] at h; cases h
  rw [upd_ne e1, upd_ne e1, upd_ne e1, upd_ne e2]
  exact h
/-- the three operators of all the classes -/
structure OpsJ (P : Program) (w : World) (K : PySem.W.Frag) (mg : Str → Option Value) (base : Heap) (cJ : JK → Addr) : Prop where
  a : OpF P w K mg base CX0 3 cJ .BitAnd (spOp cJ .both)
  o : OpF P w K mg base CX0 3 cJ .BitOr (spOp cJ .either)
  s : OpF P w K mg base CX0 3 cJ .Sub (spOp cJ .without)
end
def tOpO (X : Cx) (cJ : JK → Addr) (k : JK) : R2 := fun x y H Q => ∃ i j a b, x = .ref a ∧ y = .ref b ∧ InsC X H a (cJ i) ∧ InsC X H b (cJ j) ∧ spOp cJ k [.ref a, .ref b] H (fun v H2 => (∃ r, v = V.ref r) ∧ Q v H2) E0
section
variable {X : Cx} {cJ : JK → Addr} {H : Hp} {x y : Addr} {a b : RT} {Q : VK}
theorem rd_and (hx : RuleT cJ H x a) (hy : RuleT cJ H y b) (q : ∀ H' r, Same H H' → RuleT cJ H' r (.and a b) → Q (.ref r) H') : tOpO X cJ .both (.ref x) (.ref y) H Q := by
  obtain ⟨dx, fx, gx, _⟩ := hx.ins
  obtain ⟨dy, fy, gy, _⟩ := hy.ins
  exact ⟨a.kind, b.kind, x, y, rfl, rfl, .inr ⟨dx, fx, gx⟩, .inr ⟨dy, fy, gy⟩, _, _, rfl, fun H' r d s g => ⟨⟨r, rfl⟩, q H' r s ⟨d, x, y, g, hx.same s, hy.same s⟩⟩⟩
theorem rd_or (hx : RuleT cJ H x a) (hy : RuleT cJ H y b) (q : ∀ H' r, Same H H' → RuleT cJ H' r (.or a b) → Q (.ref r) H') : tOpO X cJ .either (.ref x) (.ref y) H Q := by
  obtain ⟨dx, fx, gx, _⟩ := hx.ins
  obtain ⟨dy, fy, gy, _⟩ := hy.ins
  exact ⟨a.kind, b.kind, x, y, rfl, rfl, .inr ⟨dx, fx, gx⟩, .inr ⟨dy, fy, gy⟩, _, _, rfl, fun H' r d s g => ⟨⟨r, rfl⟩, q H' r s ⟨d, x, y, g, hx.same s, hy.same s⟩⟩⟩
theorem rd_less (hx : RuleT cJ H x a) (hy : RuleT cJ H y b) (q : ∀ H' r, Same H H' → RuleT cJ H' r (.less a b) → Q (.ref r) H') : tOpO X cJ .without (.ref x) (.ref y) H Q := by
  obtain ⟨dx, fx, gx, _⟩ := hx.ins
  obtain ⟨dy, fy, gy, _⟩ := hy.ins
  exact ⟨a.kind, b.kind, x, y, rfl, rfl, .inr ⟨dx, fx, gx⟩, .inr ⟨dy, fy, gy⟩, _, _, rfl, fun H' r d s g => ⟨⟨r, rfl⟩, q H' r s ⟨d, x, y, g, hx.same s, hy.same s⟩⟩⟩
theorem op_andJ (O : OpsJ X.prog X.w X.K X.mg X.base cJ) (hr : Room 3 X.A) : OpR X (binaryOp .BitAnd) (tOpO X cJ .both) := op_own O.a hr pass0
theorem op_orJ (O : OpsJ X.prog X.w X.K X.mg X.base cJ) (hr : Room 3 X.A) : OpR X (binaryOp .BitOr) (tOpO X cJ .either) := op_own O.o hr pass0
theorem op_subJ (O : OpsJ X.prog X.w X.K X.mg X.base cJ) (hr : Room 3 X.A) : OpR X (binaryOp .Sub) (tOpO X cJ .without) := op_own O.s hr pass0
end
end G

set_option Elab.async false
set_option linter.all false
set_option maxRecDepth 100000
set_option maxHeartbeats 8000000
/-! _law_rule. -/
namespace G
open PySem PySem.Spec PyProof.Rows L2 StX
theorem deck_ni {H : Hp} {D L : Addr} {n : Nat} (d : Deck H D L n) : ∀ (a C dx : Addr) fs, H a = some (.ins C dx fs) → a ∉ [D, L] := by
  intro a C dx fs h z
  obtain ⟨_, m, ns, hD, hL, _⟩ := d
  rcases List.mem_cons.mp z with rfl | z
  · rw [h] at hD; cases hD
  · rw [List.mem_singleton.mp z] at h
    rw [h] at hL; cases hL
def cR : Nat → Nat
  | 0 => 20
  | d + 1 => 2 * cR d + 22
def spRu (cJ : JK → Addr) (d : Nat) : Sp := fun vs H Q _ => ∃ (D L : Addr) (n : Nat), vs = [.ref D, .int (d : Int)] ∧ Deck H D L n ∧ n + cR d < 10 ^ 11 ∧ ∀ H' t x told T, Kp [D, L] H H' → Deck H' D L (n + cR d) → H' t = some (.tup [.ref x, .ref told]) → RuleT cJ H' x T → ToldT H' told T → T.dep ≤ d → Q (.ref t) H'
def spRuP (cJ : JK → Addr) : Nat → Sp
  | 0 => fun _ _ _ _ => False
  | d + 1 => spRu cJ d
section
variable {P : Program} {w : World} {K : PySem.W.Frag} {mg : Str → Option Value} {base : Heap} {cJ : JK → Addr}
abbrev s__law_rule : Stmt := top 17
abbrev n__law_rule : List Str := ["_law_deck_here", "_law_deep", "_law_one_here", "_law_told", "_law_other", "_law_more", "_law_kind"]
theorem sc__law_rule : FnScope n__law_rule ["_law_deck_here", "_law_deep"] (defScope s__law_rule) := ⟨rfl, rfl, rfl, by decide +kernel, rfl, by decide +kernel, by decide +kernel⟩
theorem ok_ruS {f f1 fB : Addr} {fd d1 dB : FuncData} {d : Nat} (O : OpsJ P w K mg base cJ) (DR : Df K mg "_law_rule" s__law_rule ["_law_deck_here", "_law_deep"] f fd)
    (D1 : Df K mg "_law_draw" s__law_draw ["_law_deck_here", "_law_many"] f1 d1) (G1 : FnOk P w K mg base CX0 1 f1 d1 ["_law_deck_here", "_law_many"] spDraw)
    (DB : Df K mg "_law_basic" s__law_basic ["_law_deck_here"] fB dB) (GB : FnOk P w K mg base CX0 3 fB dB ["_law_deck_here"] (spBa (fun k => cJ (.b k))))
    (GR : FnOk P w K mg base CX0 (3 + d) f fd ["_law_deck_here", "_law_deep"] (spRuP cJ d)) : FnOk P w K mg base CX0 (3 + d + 1) f fd ["_law_deck_here", "_law_deep"] (spRu cJ d) := by
  refine DR.F.ok sc__law_rule (fun vs H Q E ⟨_, _, _, ev, _⟩ => by rw [ev]; rfl) (fun cdv A outer s H vs Q E hr ⟨D, L, n, ev, hD, hn, q⟩ => ?_)
  subst ev
  have hr1 : Room 1 _ := hr.mono (by omega)
  have hr3 : Room 3 _ := hr.mono (by omega)
  refine ⟨_, (pss_cons (ps_if (PW.pt (pw_or (pt_cmpR op_eq (pv 1) pe_int (nomark _)) (pw_or1 (pt_cmpR op_eq (pe_call G1 hr1 (by rfl) D1.m D1.F.kp D1.b .nil pass0 (pa_cons (pv 0) (pa_cons pe_int pa_nil))) pe_int (nomark _)))))
      (pss_one (ps_ret (pe_call GB hr3 (by rfl) DB.m DB.F.kp DB.b .nil pass0 (pa_cons (pv 0) pa_nil))))
      pss_nil)
      (pss_cons (ps_asg (pe_call GR hr (by rfl) DR.m DR.F.kp DR.b .nil pass0 (pa_cons (pv 0) (pa_cons (pe_op op_sub (pv 1) pe_int) pa_nil))) (pg_tup rfl (pgs_cons (pg_name (i := 2) sc__law_rule.nd rfl (.inl rfl)) (pgs_cons (pg_name (i := 3) sc__law_rule.nd rfl (.inl rfl)) pgs_nil))))
      (pss_cons (ps_asg (pe_call GR hr (by rfl) DR.m DR.F.kp DR.b .nil pass0 (pa_cons (pv 0) (pa_cons (pe_op op_sub (pv 1) pe_int) pa_nil))) (pg_tup rfl (pgs_cons (pg_name (i := 4) sc__law_rule.nd rfl (.inl rfl)) (pgs_cons (pg_name (i := 5) sc__law_rule.nd rfl (.inl rfl)) pgs_nil))))
      (pss_cons (ps_set (i := 6) sc__law_rule.nd rfl (.inl rfl) (pe_call G1 hr1 (by rfl) D1.m D1.F.kp D1.b .nil pass0 (pa_cons (pv 0) (pa_cons pe_int pa_nil))))
      (pss_cons (ps_if (pt_cmpR op_eq (pv 6) pe_int (nomark _))
      (pss_one (ps_ret (pe_tup (pa_cons (pe_op (op_andJ O hr3) (pv 2) (pv 4)) (pa_cons (pe_tup (pa_cons pe_str (pa_cons (pe_tup (pa_cons (pv 3) (pa_cons (pv 5) pa_nil))) pa_nil))) pa_nil)))))
      pss_nil)
      (pss_cons (ps_if (pt_cmpR op_eq (pv 6) pe_int (nomark _))
      (pss_one (ps_ret (pe_tup (pa_cons (pe_op (op_orJ O hr3) (pv 2) (pv 4)) (pa_cons (pe_tup (pa_cons pe_str (pa_cons (pe_tup (pa_cons (pv 3) (pa_cons (pv 5) pa_nil))) pa_nil))) pa_nil)))))
      pss_nil)
      (pss_one (ps_ret (pe_tup (pa_cons (pe_op (op_subJ O hr3) (pv 2) (pv 4)) (pa_cons (pe_tup (pa_cons pe_str (pa_cons (pe_tup (pa_cons (pv 3) (pa_cons (pv 5) pa_nil))) pa_nil))) pa_nil))))))))))), ?_⟩
  have fin : ∀ (H1 : Hp) (r x told y more : Addr) (T U V0 : RT) (word : Str), Kp [D, L] H H1 → Deck H1 D L (n + cR d) → RuleT cJ H1 r V0 → V0.dep ≤ d → (∀ H' t q0, Same H1 H' → H' t = some (.tup [.str word, .ref q0]) → H' q0 = some (.tup [.ref told, .ref more]) → ToldT H' t V0) →
      ∀ q0, H1 q0 = none → ∀ t1, upd H1 q0 (.tup [.ref told, .ref more]) t1 = none → ∀ t2, upd (upd H1 q0 (.tup [.ref told, .ref more])) t1 (.tup [.str word, .ref q0]) t2 = none →
      Q (.ref t2) (upd (upd (upd H1 q0 (.tup [.ref told, .ref more])) t1 (.tup [.str word, .ref q0])) t2 (.tup [.ref r, .ref t1])) := fun H1 r x told y more T U V0 word k dk hR hd hT q0 n0 t1 n1 t2 n2 => by
    have s0 := Same.up (o := HO.tup [.ref told, .ref more]) n0
    have s1 := Same.up (o := HO.tup [.str word, .ref q0]) n1
    have s2 := Same.up (o := HO.tup [.ref r, .ref t1]) n2
    have s12 := Same.trans s1 s2
    have s012 := Same.trans s0 s12
    exact q _ t2 r t1 V0 (k.trans (Kp.same s012)) (dk.sm s012) upd_same (hR.same s012) (hT _ _ q0 s012 (s2 _ _ upd_same) (s12 _ _ upd_same)) hd
  have bas : ∀ (H1 : Hp) (m : Nat), Kp [D, L] H H1 → Deck H1 D L m → m + 20 ≤ n + cR d → spBa (fun k => cJ (.b k)) [.ref D] H1 Q E0 := fun H1 m k dk hm =>
    ⟨D, L, m, rfl, dk, by omega, fun H' t x told d' k' dk' gt hR hT => q H' t x told (.bas d') (k.trans k') (dk'.mono hm) gt hR hT (Nat.zero_le _)⟩
  refine ⟨_, rfl, rfl, _, rfl, ?_⟩
  cases d with
  | zero =>
    rw [show decide (V.int ((0 : Nat) : Int) = V.int 0) = true from decide_eq_true rfl]
    exact iteT ⟨_, rfl, bas H n (Kp.refl _ _) hD (Nat.le_refl _)⟩
  | succ d =>
    have ec : cR (d + 1) = 2 * cR d + 22 := rfl
    have c20 : ∀ d, 20 ≤ cR d := fun d => by induction d with | zero => exact Nat.le_refl _ | succ d ih => show 20 ≤ 2 * cR d + 22; omega
    have c2 := c20 d
    rw [ec] at hn q fin bas
    rw [decide_eq_false (by intro z; have : ((d + 1 : Nat) : Int) = 0 := V.int.inj z; omega)]
    refine iteF ⟨.ref D, rfl, D, L, n, 3, rfl, hD, by omega, by decide, by decide, fun H1 r1 k1 hD1 r10 r11 => ⟨rfl, _, rfl, ?_⟩⟩
    refine ite2 (fun h => ?_) (fun h => ?_)
    · exact ⟨_, rfl, bas H1 (n + 1) k1 hD1 (by omega)⟩
    have e1 : ((d + 1 : Nat) : Int) - 1 = (d : Int) := by omega
    refine ⟨_, rfl, _, rfl, _, _, rfl, rfl, ?_⟩
    refine ⟨D, L, n + 1, (by show [V.ref D, V.int (((d + 1 : Nat) : Int) - 1)] = _; rw [e1]), hD1, by omega, fun H2 t2 x told T k2 hD2 gt2 hR hT hd2 => ⟨t2, _, rfl, SqT.of gt2, rfl, _, _, rfl, _, _, rfl, rfl, ?_⟩⟩
    refine ⟨_, rfl, _, rfl, _, _, rfl, rfl, ?_⟩
    refine ⟨D, L, _, (by show [V.ref D, V.int (((d + 1 : Nat) : Int) - 1)] = _; rw [e1]), hD2, by omega, fun H3 t3 y more U k3 hD3 gt3 hU hM hd3 => ⟨t3, _, rfl, SqT.of gt3, rfl, _, _, rfl, _, _, rfl, rfl, ?_⟩⟩
    have c3 := deck_ch hD2 hD3 k3
    have hR3 := hR.kp c3 (deck_ni hD2)
    have hT3 := hT.ch c3
    refine ⟨.ref D, rfl, D, L, _, 3, rfl, hD3, by omega, by decide, by decide, fun H4 r4 k4 hD4 r40 r41 => ⟨_, rfl, rfl, _, rfl, ?_⟩⟩
    have c4 := deck_ch hD3 hD4 k4
    have hR4 := hR3.kp c4 (deck_ni hD3)
    have hU4 := hU.kp c4 (deck_ni hD3)
    have hT4 := hT3.ch c4
    have hM4 := hM.ch c4
    have k14 := ((k1.trans k2).trans k3).trans k4
    have hD4 := hD4.mono (show _ ≤ n + (2 * cR d + 22) by omega)
    have hdm : max T.dep U.dep + 1 ≤ d + 1 := by omega
    refine ite2 (fun h => ?_) (fun h => ?_)
    · refine ⟨_, rfl, _, rfl, rd_and hR4 hU4 fun H5 r s5 hJ => ⟨_, rfl, _, rfl, line1000 (Nat.le_of_ble_eq_true rfl), fun q0 n0 => ⟨line1000 (Nat.le_of_ble_eq_true rfl), fun t1 n1 => ⟨line1000 (Nat.le_of_ble_eq_true rfl), fun t5 n5 => ?_⟩⟩⟩⟩
      exact fin H5 r x told y more T U (.and T U) "and" (k14.trans (Kp.same s5)) (hD4.sm s5) hJ hdm (fun H' t q0 s' g1 g2 => ⟨q0, told, more, g1, g2, hT4.same (Same.trans s5 s'), hM4.same (Same.trans s5 s')⟩) q0 n0 t1 n1 t5 n5
    refine ⟨_, rfl, rfl, _, rfl, ?_⟩
    refine ite2 (fun h => ?_) (fun h => ?_)
    · refine ⟨_, rfl, _, rfl, rd_or hR4 hU4 fun H5 r s5 hJ => ⟨_, rfl, _, rfl, line1000 (Nat.le_of_ble_eq_true rfl), fun q0 n0 => ⟨line1000 (Nat.le_of_ble_eq_true rfl), fun t1 n1 => ⟨line1000 (Nat.le_of_ble_eq_true rfl), fun t5 n5 => ?_⟩⟩⟩⟩
      exact fin H5 r x told y more T U (.or T U) "or" (k14.trans (Kp.same s5)) (hD4.sm s5) hJ hdm (fun H' t q0 s' g1 g2 => ⟨q0, told, more, g1, g2, hT4.same (Same.trans s5 s'), hM4.same (Same.trans s5 s')⟩) q0 n0 t1 n1 t5 n5
    · refine ⟨_, rfl, _, rfl, rd_less hR4 hU4 fun H5 r s5 hJ => ⟨_, rfl, _, rfl, line1000 (Nat.le_of_ble_eq_true rfl), fun q0 n0 => ⟨line1000 (Nat.le_of_ble_eq_true rfl), fun t1 n1 => ⟨line1000 (Nat.le_of_ble_eq_true rfl), fun t5 n5 => ?_⟩⟩⟩⟩
      exact fin H5 r x told y more T U (.less T U) "less" (k14.trans (Kp.same s5)) (hD4.sm s5) hJ hdm (fun H' t q0 s' g1 g2 => ⟨q0, told, more, g1, g2, hT4.same (Same.trans s5 s'), hM4.same (Same.trans s5 s')⟩) q0 n0 t1 n1 t5 n5
theorem ok_ruAll {f f1 fB : Addr} {fd d1 dB : FuncData} (O : OpsJ P w K mg base cJ) (DR : Df K mg "_law_rule" s__law_rule ["_law_deck_here", "_law_deep"] f fd)
    (D1 : Df K mg "_law_draw" s__law_draw ["_law_deck_here", "_law_many"] f1 d1) (G1 : FnOk P w K mg base CX0 1 f1 d1 ["_law_deck_here", "_law_many"] spDraw)
    (DB : Df K mg "_law_basic" s__law_basic ["_law_deck_here"] fB dB) (GB : FnOk P w K mg base CX0 3 fB dB ["_law_deck_here"] (spBa (fun k => cJ (.b k)))) : ∀ d : Nat, FnOk P w K mg base CX0 (3 + d + 1) f fd ["_law_deck_here", "_law_deep"] (spRu cJ d)
  | 0 => ok_ruS (d := 0) O DR D1 G1 DB GB ⟨fun _ _ _ _ h => (show False from h).elim, fun _ _ _ _ _ _ _ _ _ _ _ _ _ h => (show False from h).elim⟩
  | d + 1 => ok_ruS O DR D1 G1 DB GB (ok_ruAll O DR D1 G1 DB GB d)
end
end G

set_option Elab.async false
set_option linter.all false
set_option maxRecDepth 100000
set_option maxHeartbeats 8000000
/-! calls of rules; _law_same. -/
namespace G
open PySem PySem.Spec PyProof.Rows L2 StX
theorem showy_namesT {p : Int} {rows : List VR} {t : RT} {zs : List Nat} (gv : GoodV rows) (hc : ∀ r ∈ rows, r.c ≤ 30) (h : NamedT p rows t zs) : ShowyP (.tuple (intD zs)) 100 16000000 := by
  have l := h.len gv
  refine (showy_ints zs fun x hx => ?_).tup.mono (by decide) (by omega)
  obtain ⟨r, hr, rfl⟩ := List.mem_map.mp (nm_cell ((h.mem x).mp hx))
  have := hc r hr
  omega
def View1 (H : Hp) (v : V) : Prop := ∃ (m p : Nat) (rows : List VR), TD H v (viewD (m : Int) (p : Int) rows) ∧ GoodV rows ∧ m < 90 ∧ p < 24 ∧ ∀ r ∈ rows, r.c ≤ 30
theorem View1.ch {S : List Addr} {H H' : Hp} {v : V} (h : View1 H v) (c : Ch S H H') : View1 H' v := by
  obtain ⟨m, p, rows, td, h⟩ := h
  exact ⟨m, p, rows, TD.ch c _ _ td, h⟩
def Views (H : Hp) (vl : Addr) : Prop := ∃ vvs : List V, H vl = some (.lst vvs) ∧ vvs.length ≤ 5 ∧ ∀ v ∈ vvs, View1 H v
theorem Views.ch {S : List Addr} {H H' : Hp} {vl : Addr} (h : Views H vl) (c : Ch S H H') (n : vl ∉ S) : Views H' vl := by
  obtain ⟨vvs, g, l, hv⟩ := h
  exact ⟨vvs, c.kp _ _ n g, l, fun v hm => (hv v hm).ch c⟩
theorem Views.same {H H' : Hp} {vl : Addr} (h : Views H vl) (s : Same H H') : Views H' vl := h.ch (Ch.same (S := []) s) (fun z => nomatch z)
def spClT (cJ : JK → Addr) (d : Nat) : Sp := fun vs H Q E => ∃ k, spNT cJ d k vs H Q E
/-- x(y), both locals, x a rule -/
def tCaV (cJ : JK → Addr) (sp : Sp) (j k : Nat) : TE := fun σ H Q => ∃ i a v, σ[j]? = some (some (.ref a)) ∧ σ[k]? = some (some v) ∧ (∃ dx fs, H a = some (.ins (cJ i) dx fs)) ∧ sp [.ref a, v] H Q E0
theorem wCaV {X : Cx} {cJ : JK → Addr} {sp : Sp} {j k : Nat} : ∀ σ H Q, tCaV cJ sp j k σ H Q → ∃ i, tCallO X (cJ i) sp E0 (tVar j) (tCons (tVar k) tNil) σ H Q :=
  fun σ H Q ⟨i, a, v, h1, h2, h3, q⟩ => ⟨i, .ref a, h1, a, rfl, v, h2, .inr h3, q⟩
theorem rd_ca {cJ : JK → Addr} {d j k : Nat} {σ : L2.St} {H : Hp} {Q : VK} {a : Addr} {t : RT} {v : V} {m p : Int} {rows : List VR} (h1 : σ[j]? = some (some (.ref a))) (h2 : σ[k]? = some (some v)) (hR : RuleT cJ H a t) (hd : t.dep ≤ d) (td : TD H v (viewD m p rows)) (gv : GoodV rows)
    (q : ∀ H' tp zs, Same H H' → H' tp = some (.tup (intsN zs)) → NamedT p rows t zs → Q (.ref tp) H') : tCaV cJ (spClT cJ d) j k σ H Q := by
  obtain ⟨dx, fs, hx, _⟩ := hR.ins
  exact ⟨t.kind, a, v, h1, h2, ⟨dx, fs, hx⟩, t.kind, a, t, v, m, p, rows, rfl, rfl, hd, hR, td, gv, q⟩
section
variable {P : Program} {w : World} {K : PySem.W.Frag} {mg : Str → Option Value} {base : Heap} {cJ : JK → Addr}
theorem ok_rcT {f : Addr} {fd : FuncData} {lv d : Nat} (F : Fun K "__call__" "Rule.__call__" s_rcall f fd) (Z : RlsT P w K mg base cJ lv d) : FnOk P w K mg base CX0 (lv + 1) f fd ["self", "view"] (spClT cJ d) := by
  refine F.ok sc_rcall (fun vs H Q E ⟨_, _, _, _, _, _, _, ev, _⟩ => by rw [ev]; rfl) (fun cdv A outer s H vs Q E hr ⟨k, x, t, v, m, p, rows, ev, ek, hd, hR, td, gv, q⟩ => ?_)
  subst ev
  subst ek
  obtain ⟨dx, fs, hx, hl⟩ := hR.ins
  exact ⟨_, pss_one (ps_ret (pe_methA (cO := cJ) (sp := spNT cJ d) (pv 0) (fun k => ⟨Z.cl k, Z.nm k⟩) hr pass0 (pa_cons (pv 1) pa_nil))), _, rfl, t.kind, x, dx, fs, rfl, hx, hl, _, rfl, x, t, v, m, p, rows, rfl, rfl, hd, hR, td, gv, q⟩
/-- instances are called -/
structure CallJ (P : Program) (w : World) (K : PySem.W.Frag) (mg : Str → Option Value) (base : Heap) (cJ : JK → Addr) (g : JK → Addr) : Prop where
  c : ∀ k, CallO K (cJ k) (g k)
  f : ∀ d k, FnR P w K mg base CX0 (3 + d) (g k) (spClT cJ d)
abbrev s__law_same : Stmt := top 20
abbrev n__law_same : List Str := ["_law_one_here", "_law_other", "_law_views", "_law_view_here"]
theorem sc__law_same : FnScope n__law_same ["_law_one_here", "_law_other", "_law_views"] (defScope s__law_same) := ⟨rfl, rfl, rfl, by decide +kernel, rfl, by decide +kernel, by decide +kernel⟩
def spSa (cJ : JK → Addr) (d : Nat) : Sp := fun vs H Q _ => ∃ (x y vl : Addr) (T U : RT), vs = [.ref x, .ref y, .ref vl] ∧ T.dep ≤ d ∧ U.dep ≤ d ∧ RuleT cJ H x T ∧ RuleT cJ H y U ∧ Views H vl ∧ (∀ (p : Int) (rows : List VR) (c : Nat), NmT p rows T c ↔ NmT p rows U c) ∧ ∀ H', Same H H' → Q (.bl true) H'
theorem ok_sa {f : Addr} {fd : FuncData} {g : JK → Addr} {d : Nat} (F : Fun K "_law_same" "_law_same" s__law_same f fd) (z_repr : mg "repr" = none) (z_all : mg "all" = none) (CJ : CallJ P w K mg base cJ g) : FnOkG P w K mg base (3 + d + 1) f fd ["_law_one_here", "_law_other", "_law_views"] (spSa cJ d) := by
  refine G.Fun.okG F sc__law_same (fun vs H Q E ⟨_, _, _, _, _, ev, _⟩ => by rw [ev]; rfl) (fun cdv A outer s H vs Q E gA hr ⟨x, y, vl, T, U, ev, hdT, hdU, hT, hU, hV, hq, q⟩ => ?_)
  subst ev
  have hu101 : (A.deeper (envOfC "_law_same" (defScope s__law_same) s.heap.objs.size f cdv)).units + 101 < cLine := by have := hr.un; omega
  have gu : (A.deeper (envOfC "_law_same" (defScope s__law_same) s.heap.objs.size f cdv)).guards = some [] := gA
  refine ⟨_, (pss_one (ps_ret (pe_callB (cr_all rfl) (by rfl) z_all (by decide +kernel) (pa_cons (pe_lc (tt := tYes) (te := tOp rEq (tCB (rRp K) (tCons (tCaV cJ (spClT cJ d) 0 3) tNil)) (tCB (rRp K) (tCons (tCaV cJ (spClT cJ d) 1 3) tNil))) (own := [("_law_view_here", 3)]) (by rfl) sc__law_same.nd (pi_list (pv 2)) (blkOk_by (N := n__law_same) (sc := defScope s__law_same) (by decide +kernel)) (fun _ _ _ _ _ => (pg_name (i := 3) sc__law_same.nd rfl (.inl rfl))) (fun _ _ _ _ _ => pts_nil)
      (fun _ _ _ _ _ => (pe_cmpR op_eq (pe_callB (call_rpP gu hu101) (by rfl) z_repr (by decide +kernel) (pa_cons (pe_cons (pe_ex fun k => pe_callO (pv 0) (CJ.c k) (CJ.f d k) hr pass0 (pa_cons (pv 3) pa_nil)) wCaV) pa_nil)) (pe_callB (call_rpP gu hu101) (by rfl) z_repr (by decide +kernel) (pa_cons (pe_cons (pe_ex fun k => pe_callO (pv 1) (CJ.c k) (CJ.f d k) hr pass0 (pa_cons (pv 3) pa_nil)) wCaV) pa_nil)) (nomark _)))) pa_nil)))), ?_⟩
  obtain ⟨vvs, gV, lV, hv⟩ := hV
  refine ⟨_, rfl, vl, rfl, ⟨_, SqL.of gV⟩, fun N nN => ?_⟩
  refine lc_list (xs := vvs) (fun i H' => Same H H' ∧ H' N = some (.lst ((List.replicate i true).map V.bl))) ⟨Same.up nN, upd_same⟩ (fun i H' _ h => SqL.of (h.1 _ _ gV)) ?_ ?_
  · rintro i v H' hx ⟨s', gN⟩
    have hi := (List.getElem?_eq_some_iff.mp hx).1
    obtain ⟨m, p, rows, td, gv, hm, hp, hc⟩ := (hv v (List.mem_of_getElem? hx)).ch (Ch.same (S := []) s')
    refine ⟨rfl, rd_ca rfl rfl (hT.same s') hdT td gv fun H1 t1 zs s1 g1 n1 => ⟨.ref t1, .tuple (intD zs), rfl, TD.dp _ _ (.tup g1 (ints_tds _)), showy_namesT gv hc n1, ?_⟩⟩
    refine rd_ca rfl rfl ((hU.same s').same s1) hdU (TD.ch (Ch.same (S := []) s1) _ _ td) gv fun H2 t2 ys s2 g2 n2 => ?_
    have e : ys = zs := n2.eq n1 fun c => (hq _ _ c).symm
    subst e
    have s12 := Same.trans s1 s2
    refine ⟨.ref t2, .tuple (intD ys), rfl, TD.dp _ _ (.tup g2 (ints_tds _)), showy_namesT gv hc n1, rfl, _, s12 _ _ gN, lt_line (by rw [List.length_map, List.length_replicate]; omega), G.Same.putN (Same.trans s' s12) nN, ?_⟩
    rw [upd_same, decide_eq_true rfl, List.replicate_succ', List.map_append]
    rfl
  · rintro H' ⟨s', gN⟩
    refine ⟨N, _, rfl, SqL.of gN, ?_⟩
    rw [show (List.replicate vvs.length true).all id = true from List.all_eq_true.mpr fun b hb => List.eq_of_mem_replicate hb]
    exact q H' s'
end
end G

set_option Elab.async false
set_option linter.all false
set_option maxRecDepth 100000
set_option maxHeartbeats 8000000
/-! _law_sets_right. -/
namespace G
open PySem PySem.Spec PyProof.Rows L2 StX
section
variable {X : Cx} {k : Nat} {f : Addr} {fd : FuncData} {ps : List Str} {sp : Sp} {E : XK} {x : Str} {p pos : Pos} {e : Expr} {es : List Expr} {t : TA}
theorem run_fnG {pins : List (Addr × Obj)} {σ : L2.St} {H : Hp} {s : Shared} {Q : VK} {us : List Value} {vs : List V} (F : FnOkG X.prog X.w X.K X.mg X.base k f fd ps sp) (gd : X.A.guards = some []) (hr : Room k X.A) (hb : Binds X.K fd ps []) (hx : Passes CX0 X E)
    (I : Inv X pins σ H s) (r : Vals vs us) (h : sp vs H Q E) : wpAny (model X.prog X.w) X.A (call (.ref f) us) (EP X pins σ Q) X.xe s := by
  have hl : us.length = ps.length := by rw [← r.length]; exact F.len _ _ _ _ h
  have hb2 := hb s us I.kIn (by rw [List.append_nil]; exact hl)
  rw [List.append_nil] at hb2
  refine wpAny_call (codeAny_mono (F.run X.A X.stack s H ⟨us, []⟩ us vs Q E gd hr I.env0 hb2 r h) fun y s' hq => ?_)
  cases y with
  | error e => exact hx pins σ H s e s' I hq
  | ok fl =>
    cases fl with
    | ret u => exact I.after hq
    | next => exact False.elim hq
    | brk => exact False.elim hq
    | cont => exact False.elim hq
theorem pe_callGd (F : FnOkG X.prog X.w X.K X.mg X.base k f fd ps sp) (gd : X.A.guards = some []) (hr : Room k X.A) (hg : Gl X x) (hm : X.mg x = some (.ref f)) (hk : PySem.W.keepIn X.K (.ref f) = true) (hb : Binds X.K fd ps []) (hx : Passes CX0 X E)
    (ha : PA X (e :: es) t) (hdb : (x == ("__debug__" : Str)) = false := by decide) (he : starEach (e :: es) X.env = (false, eval e X.env) :: starEach es X.env := by rfl) (hpl : (backTo pos (starEach es X.env)).any (·.1) = false := by rfl) :
    PE X (.Call (.Name x p) (e :: es) [] pos) (tCall sp [] E t) := by
  refine ⟨fun pins s σ H Q I h => wpAny_Call_Name_kw (ld_glob I hg hm ?_ hdb)⟩
  refine PySem.W.callWith_K (h₀ := X.base) I.ok.mod.kin hk (thn (ha.run pos pins s σ H _ I h) fun us s1 ⟨vs, H1, I1, r, q⟩ => ⟨I1.kIn, ?_⟩) he hpl
  have q : sp (vs ++ []) H1 Q E := q
  rw [List.append_nil] at q
  exact run_fnG F gd hr hb hx I1 r q
end
/-- an expression of rules -/
inductive RX
  | v (i : Nat)
  | mk
  | and (a b : RX)
  | or (a b : RX)
  | less (a b : RX)
def RX.vok : RX → Bool
  | .v i => decide (i < 3)
  | .mk => true
  | .and a b => a.vok && b.vok
  | .or a b => a.vok && b.vok
  | .less a b => a.vok && b.vok
def RX.rt (Ts : Nat → RT) : RX → RT
  | .v i => Ts i
  | .mk => .bas .never
  | .and a b => .and (a.rt Ts) (b.rt Ts)
  | .or a b => .or (a.rt Ts) (b.rt Ts)
  | .less a b => .less (a.rt Ts) (b.rt Ts)
def tRX (X : Cx) (cJ : JK → Addr) : RX → TE
  | .v i => tVar i
  | .mk => tMake0 (cJ (.b .never))
  | .and a b => tOp (tOpO X cJ .both) (tRX X cJ a) (tRX X cJ b)
  | .or a b => tOp (tOpO X cJ .either) (tRX X cJ a) (tRX X cJ b)
  | .less a b => tOp (tOpO X cJ .without) (tRX X cJ a) (tRX X cJ b)
def VarsAt (cJ : JK → Addr) (Ts : Nat → RT) (σ : L2.St) (H : Hp) : Prop := ∀ i, i < 3 → ∃ x, σ[i]? = some (some (V.ref x)) ∧ RuleT cJ H x (Ts i)
theorem VarsAt.same {cJ : JK → Addr} {Ts : Nat → RT} {σ : L2.St} {H H' : Hp} (h : VarsAt cJ Ts σ H) (s : Same H H') : VarsAt cJ Ts σ H' := fun i hi => let ⟨x, e, r⟩ := h i hi; ⟨x, e, r.same s⟩
theorem rd_rx {X : Cx} {cJ : JK → Addr} {Ts : Nat → RT} {σ : L2.St} : ∀ {e : RX} {H : Hp} {Q : VK}, e.vok = true → VarsAt cJ Ts σ H → (∀ H' r, Same H H' → RuleT cJ H' r (e.rt Ts) → Q (.ref r) H') → tRX X cJ e σ H Q
  | .v i, H, Q, ok, hv, q => by
    obtain ⟨x, e, r⟩ := hv i (of_decide_eq_true ok)
    exact ⟨_, e, q H x (Same.refl _) r⟩
  | .mk, H, Q, ok, hv, q => fun x dx hx hdx ne => q _ x (inst_same hx hdx ne) ⟨dx, upd_same⟩
  | .and a b, H, Q, ok, hv, q => by
    obtain ⟨o1, o2⟩ := Bool.and_eq_true_iff.mp ok
    show tRX X cJ a σ H fun y1 H1 => tRX X cJ b σ H1 fun y2 H2 => tOpO X cJ .both y1 y2 H2 Q
    refine rd_rx o1 hv fun H1 r1 s1 h1 => ?_
    refine rd_rx o2 (hv.same s1) fun H2 r2 s2 h2 => ?_
    exact rd_and (h1.same s2) h2 fun H3 r s3 h3 => q H3 r (Same.trans s1 (Same.trans s2 s3)) h3
  | .or a b, H, Q, ok, hv, q => by
    obtain ⟨o1, o2⟩ := Bool.and_eq_true_iff.mp ok
    show tRX X cJ a σ H fun y1 H1 => tRX X cJ b σ H1 fun y2 H2 => tOpO X cJ .either y1 y2 H2 Q
    refine rd_rx o1 hv fun H1 r1 s1 h1 => ?_
    refine rd_rx o2 (hv.same s1) fun H2 r2 s2 h2 => ?_
    exact rd_or (h1.same s2) h2 fun H3 r s3 h3 => q H3 r (Same.trans s1 (Same.trans s2 s3)) h3
  | .less a b, H, Q, ok, hv, q => by
    obtain ⟨o1, o2⟩ := Bool.and_eq_true_iff.mp ok
    show tRX X cJ a σ H fun y1 H1 => tRX X cJ b σ H1 fun y2 H2 => tOpO X cJ .without y1 y2 H2 Q
    refine rd_rx o1 hv fun H1 r1 s1 h1 => ?_
    refine rd_rx o2 (hv.same s1) fun H2 r2 s2 h2 => ?_
    exact rd_less (h1.same s2) h2 fun H3 r s3 h3 => q H3 r (Same.trans s1 (Same.trans s2 s3)) h3
/-- a pair of rules that are alike -/
def PairOk (cJ : JK → Addr) (H : Hp) (v : V) : Prop := ∃ p r1 r2 T U, v = .ref p ∧ H p = some (.tup [.ref r1, .ref r2]) ∧ RuleT cJ H r1 T ∧ RuleT cJ H r2 U ∧ T.dep ≤ 4 ∧ U.dep ≤ 4 ∧ ∀ (p : Int) (rows : List VR) (c : Nat), NmT p rows T c ↔ NmT p rows U c
theorem PairOk.same {cJ : JK → Addr} {H H' : Hp} {v : V} (h : PairOk cJ H v) (s : Same H H') : PairOk cJ H' v := by
  obtain ⟨p, r1, r2, T, U, e, g, h1, h2, h⟩ := h
  exact ⟨p, r1, r2, T, U, e, s _ _ g, h1.same s, h2.same s, h⟩
theorem PairOk.putL {cJ : JK → Addr} {H : Hp} {v : V} {LP : Addr} {xs ys : List V} (h : PairOk cJ H v) (g : H LP = some (.lst xs)) : PairOk cJ (upd H LP (.lst ys)) v := by
  have c : Ch [LP] H (upd H LP (.lst ys)) := (Ch.refl _ _).put (by simp) g (fun xs z => by cases z)
  have ni : ∀ (a C dx : Addr) fs, H a = some (.ins C dx fs) → a ∉ [LP] := fun a C dx fs h z => by
    rw [List.mem_singleton.mp z, g] at h; cases h
  obtain ⟨p, r1, r2, T, U, e, gp, h1, h2, h⟩ := h
  exact ⟨p, r1, r2, T, U, e, c.tu _ _ gp, h1.kp c ni, h2.kp c ni, h⟩
structure Prs (cJ : JK → Addr) (H : Hp) (LP : Addr) (xs : List V) : Prop where
  g : H LP = some (.lst xs)
  k : ∀ v ∈ xs, PairOk cJ H v
theorem Prs.same {cJ : JK → Addr} {H H' : Hp} {LP : Addr} {xs : List V} (h : Prs cJ H LP xs) (s : Same H H') : Prs cJ H' LP xs := ⟨s _ _ h.g, fun v hv => (h.k v hv).same s⟩
theorem Prs.app {cJ : JK → Addr} {H : Hp} {LP : Addr} {xs ys : List V} (h : Prs cJ H LP xs) (k : ∀ v ∈ ys, PairOk cJ H v) : Prs cJ (upd H LP (.lst (xs ++ ys))) LP (xs ++ ys) :=
  ⟨upd_same, fun v hv => (List.mem_append.mp hv).elim (fun z => (h.k v z).putL h.g) (fun z => (k v z).putL h.g)⟩
theorem rd_pair {X : Cx} {cJ : JK → Addr} {Ts : Nat → RT} {σ : L2.St} {H : Hp} {Q : VK} {l r : RX} (ol : l.vok = true) (or : r.vok = true) (hv : VarsAt cJ Ts σ H) (dp : (l.rt Ts).dep ≤ 4 ∧ (r.rt Ts).dep ≤ 4) (eq : ∀ (p : Int) (rows : List VR) (c : Nat), NmT p rows (l.rt Ts) c ↔ NmT p rows (r.rt Ts) c)
    (q : ∀ H' p, Same H H' → PairOk cJ H' (.ref p) → Q (.ref p) H') : tTup (tCons (tRX X cJ l) (tCons (tRX X cJ r) tNil)) σ H Q :=
  rd_rx ol hv fun H1 r1 s1 h1 => rd_rx or (hv.same s1) fun H2 r2 s2 h2 => ⟨line1000 (Nat.le_of_ble_eq_true rfl), fun p np => by
    have s3 := Same.up (o := HO.tup [V.ref r1, V.ref r2]) np
    exact q _ p (Same.trans s1 (Same.trans s2 s3)) ⟨p, r1, r2, _, _, rfl, upd_same, h1.same (Same.trans s2 s3), h2.same s3, dp.1, dp.2, eq⟩⟩
def tPairS (cJ : JK → Addr) (l r : RX) : TE := fun σ H Q => ∃ Ts : Nat → RT, VarsAt cJ Ts σ H ∧ ((l.rt Ts).dep ≤ 4 ∧ (r.rt Ts).dep ≤ 4) ∧ (∀ (p : Int) (rows : List VR) (c : Nat), NmT p rows (l.rt Ts) c ↔ NmT p rows (r.rt Ts) c) ∧ ∀ H' p, Same H H' → PairOk cJ H' (.ref p) → Q (.ref p) H'
theorem eq0 {Ts : Nat → RT} (p : Int) (rows : List VR) (c : Nat) : NmT p rows (RX.rt Ts (.and (.v 0) (.v 1))) c ↔ NmT p rows (RX.rt Ts (.and (.v 1) (.v 0))) c := by
  simp only [RX.rt, NmT, NmD]
  by_cases A : NmT p rows (Ts 0) c <;> by_cases B : NmT p rows (Ts 1) c <;> by_cases C : NmT p rows (Ts 2) c <;> simp [A, B, C]
theorem dp0 {Ts : Nat → RT} (h0 : (Ts 0).dep ≤ 2) (h1 : (Ts 1).dep ≤ 2) (h2 : (Ts 2).dep ≤ 1) : (RX.rt Ts (.and (.v 0) (.v 1))).dep ≤ 4 ∧ (RX.rt Ts (.and (.v 1) (.v 0))).dep ≤ 4 := by
  simp only [RX.rt, RT.dep]
  omega
theorem eq1 {Ts : Nat → RT} (p : Int) (rows : List VR) (c : Nat) : NmT p rows (RX.rt Ts (.or (.v 0) (.v 1))) c ↔ NmT p rows (RX.rt Ts (.or (.v 1) (.v 0))) c := by
  simp only [RX.rt, NmT, NmD]
  by_cases A : NmT p rows (Ts 0) c <;> by_cases B : NmT p rows (Ts 1) c <;> by_cases C : NmT p rows (Ts 2) c <;> simp [A, B, C]
theorem dp1 {Ts : Nat → RT} (h0 : (Ts 0).dep ≤ 2) (h1 : (Ts 1).dep ≤ 2) (h2 : (Ts 2).dep ≤ 1) : (RX.rt Ts (.or (.v 0) (.v 1))).dep ≤ 4 ∧ (RX.rt Ts (.or (.v 1) (.v 0))).dep ≤ 4 := by
  simp only [RX.rt, RT.dep]
  omega
theorem eq2 {Ts : Nat → RT} (p : Int) (rows : List VR) (c : Nat) : NmT p rows (RX.rt Ts (.less (.v 0) (.v 1))) c ↔ NmT p rows (RX.rt Ts (.less (.v 0) (.and (.v 0) (.v 1)))) c := by
  simp only [RX.rt, NmT, NmD]
  by_cases A : NmT p rows (Ts 0) c <;> by_cases B : NmT p rows (Ts 1) c <;> by_cases C : NmT p rows (Ts 2) c <;> simp [A, B, C]
theorem dp2 {Ts : Nat → RT} (h0 : (Ts 0).dep ≤ 2) (h1 : (Ts 1).dep ≤ 2) (h2 : (Ts 2).dep ≤ 1) : (RX.rt Ts (.less (.v 0) (.v 1))).dep ≤ 4 ∧ (RX.rt Ts (.less (.v 0) (.and (.v 0) (.v 1)))).dep ≤ 4 := by
  simp only [RX.rt, RT.dep]
  omega
theorem eq3 {Ts : Nat → RT} (p : Int) (rows : List VR) (c : Nat) : NmT p rows (RX.rt Ts (.and (.v 0) (.or (.v 1) (.v 2)))) c ↔ NmT p rows (RX.rt Ts (.or (.and (.v 0) (.v 1)) (.and (.v 0) (.v 2)))) c := by
  simp only [RX.rt, NmT, NmD]
  by_cases A : NmT p rows (Ts 0) c <;> by_cases B : NmT p rows (Ts 1) c <;> by_cases C : NmT p rows (Ts 2) c <;> simp [A, B, C]
theorem dp3 {Ts : Nat → RT} (h0 : (Ts 0).dep ≤ 2) (h1 : (Ts 1).dep ≤ 2) (h2 : (Ts 2).dep ≤ 1) : (RX.rt Ts (.and (.v 0) (.or (.v 1) (.v 2)))).dep ≤ 4 ∧ (RX.rt Ts (.or (.and (.v 0) (.v 1)) (.and (.v 0) (.v 2)))).dep ≤ 4 := by
  simp only [RX.rt, RT.dep]
  omega
theorem eq4 {Ts : Nat → RT} (p : Int) (rows : List VR) (c : Nat) : NmT p rows (RX.rt Ts (.less (.v 0) (.or (.v 1) (.v 2)))) c ↔ NmT p rows (RX.rt Ts (.less (.less (.v 0) (.v 1)) (.v 2))) c := by
  simp only [RX.rt, NmT, NmD]
  by_cases A : NmT p rows (Ts 0) c <;> by_cases B : NmT p rows (Ts 1) c <;> by_cases C : NmT p rows (Ts 2) c <;> simp [A, B, C]
theorem dp4 {Ts : Nat → RT} (h0 : (Ts 0).dep ≤ 2) (h1 : (Ts 1).dep ≤ 2) (h2 : (Ts 2).dep ≤ 1) : (RX.rt Ts (.less (.v 0) (.or (.v 1) (.v 2)))).dep ≤ 4 ∧ (RX.rt Ts (.less (.less (.v 0) (.v 1)) (.v 2))).dep ≤ 4 := by
  simp only [RX.rt, RT.dep]
  omega
theorem eq5 {Ts : Nat → RT} (p : Int) (rows : List VR) (c : Nat) : NmT p rows (RX.rt Ts (.or (.v 0) (.and (.v 0) (.v 1)))) c ↔ NmT p rows (RX.rt Ts (.v 0)) c := by
  simp only [RX.rt, NmT, NmD]
  by_cases A : NmT p rows (Ts 0) c <;> by_cases B : NmT p rows (Ts 1) c <;> by_cases C : NmT p rows (Ts 2) c <;> simp [A, B, C]
theorem dp5 {Ts : Nat → RT} (h0 : (Ts 0).dep ≤ 2) (h1 : (Ts 1).dep ≤ 2) (h2 : (Ts 2).dep ≤ 1) : (RX.rt Ts (.or (.v 0) (.and (.v 0) (.v 1)))).dep ≤ 4 ∧ (RX.rt Ts (.v 0)).dep ≤ 4 := by
  simp only [RX.rt, RT.dep]
  omega
theorem eq6 {Ts : Nat → RT} (p : Int) (rows : List VR) (c : Nat) : NmT p rows (RX.rt Ts (.and (.v 0) (.v 0))) c ↔ NmT p rows (RX.rt Ts (.v 0)) c := by
  simp only [RX.rt, NmT, NmD]
  by_cases A : NmT p rows (Ts 0) c <;> by_cases B : NmT p rows (Ts 1) c <;> by_cases C : NmT p rows (Ts 2) c <;> simp [A, B, C]
theorem dp6 {Ts : Nat → RT} (h0 : (Ts 0).dep ≤ 2) (h1 : (Ts 1).dep ≤ 2) (h2 : (Ts 2).dep ≤ 1) : (RX.rt Ts (.and (.v 0) (.v 0))).dep ≤ 4 ∧ (RX.rt Ts (.v 0)).dep ≤ 4 := by
  simp only [RX.rt, RT.dep]
  omega
theorem eq7 {Ts : Nat → RT} (p : Int) (rows : List VR) (c : Nat) : NmT p rows (RX.rt Ts (.less (.v 0) (.v 0))) c ↔ NmT p rows (RX.rt Ts .mk) c := by
  simp only [RX.rt, NmT, NmD]
  by_cases A : NmT p rows (Ts 0) c <;> by_cases B : NmT p rows (Ts 1) c <;> by_cases C : NmT p rows (Ts 2) c <;> simp [A, B, C]
theorem dp7 {Ts : Nat → RT} (h0 : (Ts 0).dep ≤ 2) (h1 : (Ts 1).dep ≤ 2) (h2 : (Ts 2).dep ≤ 1) : (RX.rt Ts (.less (.v 0) (.v 0))).dep ≤ 4 ∧ (RX.rt Ts .mk).dep ≤ 4 := by
  simp only [RX.rt, RT.dep]
  omega
theorem eq8 {Ts : Nat → RT} (p : Int) (rows : List VR) (c : Nat) : NmT p rows (RX.rt Ts (.or (.v 0) .mk)) c ↔ NmT p rows (RX.rt Ts (.v 0)) c := by
  simp only [RX.rt, NmT, NmD]
  by_cases A : NmT p rows (Ts 0) c <;> by_cases B : NmT p rows (Ts 1) c <;> by_cases C : NmT p rows (Ts 2) c <;> simp [A, B, C]
theorem dp8 {Ts : Nat → RT} (h0 : (Ts 0).dep ≤ 2) (h1 : (Ts 1).dep ≤ 2) (h2 : (Ts 2).dep ≤ 1) : (RX.rt Ts (.or (.v 0) .mk)).dep ≤ 4 ∧ (RX.rt Ts (.v 0)).dep ≤ 4 := by
  simp only [RX.rt, RT.dep]
  omega
section
variable {P : Program} {w : World} {K : PySem.W.Frag} {mg : Str → Option Value} {base : Heap} {cJ : JK → Addr}
abbrev s__law_sets_right : Stmt := top 21
abbrev n__law_sets_right : List Str := ["_law_one_here", "_law_other", "_law_third", "_law_views", "_law_pairs", "_law_left", "_law_right"]
theorem sc__law_sets_right : FnScope n__law_sets_right ["_law_one_here", "_law_other", "_law_third", "_law_views"] (defScope s__law_sets_right) := ⟨rfl, rfl, rfl, by decide +kernel, rfl, by decide +kernel, by decide +kernel⟩
def spSR (cJ : JK → Addr) : Sp := fun vs H Q _ => ∃ (x y z vl : Addr) (T U W : RT), vs = [.ref x, .ref y, .ref z, .ref vl] ∧ T.dep ≤ 2 ∧ U.dep ≤ 2 ∧ W.dep ≤ 1 ∧ RuleT cJ H x T ∧ RuleT cJ H y U ∧ RuleT cJ H z W ∧ Views H vl ∧ ∀ H', Same H H' → Q (.bl true) H'
theorem ok_sr {f fS : Addr} {fd dS : FuncData} (F : Fun K "_law_sets_right" "_law_sets_right" s__law_sets_right f fd) (z_all : mg "all" = none) (O : OpsJ P w K mg base cJ) (MR : Mk0 K (cJ (.b .never))) (mR : mg "Rule" = some (.ref (cJ (.b .never))))
    (DS : Df K mg "_law_same" s__law_same ["_law_one_here", "_law_other", "_law_views"] fS dS) (GS : FnOkG P w K mg base 8 fS dS ["_law_one_here", "_law_other", "_law_views"] (spSa cJ 4)) : FnOkG P w K mg base 9 f fd ["_law_one_here", "_law_other", "_law_third", "_law_views"] (spSR cJ) := by
  refine G.Fun.okG F sc__law_sets_right (fun vs H Q E ⟨_, _, _, _, _, _, _, ev, _⟩ => by rw [ev]; rfl) (fun cdv A outer s H vs Q E gA hr ⟨x, y, z, vl, T, U, W, ev, hdT, hdU, hdW, hT, hU, hW, hV, q⟩ => ?_)
  subst ev
  have hr3 : Room 3 _ := hr.mono (by decide)
  have gu : (A.deeper (envOfC "_law_sets_right" (defScope s__law_sets_right) s.heap.objs.size f cdv)).guards = some [] := gA
  refine ⟨_, (pss_cons (ps_set (i := 4) sc__law_sets_right.nd rfl (.inl rfl) (pe_lst (pa_cons (pe_cons (tw := tPairS cJ (.and (.v 0) (.v 1)) (.and (.v 1) (.v 0))) (pe_tup (pa_cons (pe_op (op_andJ O hr3) (pv 0) (pv 1)) (pa_cons (pe_op (op_andJ O hr3) (pv 1) (pv 0)) pa_nil))) (fun _ _ _ ⟨_, hv, dp, eq, q⟩ => rd_pair (l := (.and (.v 0) (.v 1))) (r := (.and (.v 1) (.v 0))) rfl rfl hv dp eq q)) (pa_cons (pe_cons (tw := tPairS cJ (.or (.v 0) (.v 1)) (.or (.v 1) (.v 0))) (pe_tup (pa_cons (pe_op (op_orJ O hr3) (pv 0) (pv 1)) (pa_cons (pe_op (op_orJ O hr3) (pv 1) (pv 0)) pa_nil))) (fun _ _ _ ⟨_, hv, dp, eq, q⟩ => rd_pair (l := (.or (.v 0) (.v 1))) (r := (.or (.v 1) (.v 0))) rfl rfl hv dp eq q)) (pa_cons (pe_cons (tw := tPairS cJ (.less (.v 0) (.v 1)) (.less (.v 0) (.and (.v 0) (.v 1)))) (pe_tup (pa_cons (pe_op (op_subJ O hr3) (pv 0) (pv 1)) (pa_cons (pe_op (op_subJ O hr3) (pv 0) (pe_op (op_andJ O hr3) (pv 0) (pv 1))) pa_nil))) (fun _ _ _ ⟨_, hv, dp, eq, q⟩ => rd_pair (l := (.less (.v 0) (.v 1))) (r := (.less (.v 0) (.and (.v 0) (.v 1)))) rfl rfl hv dp eq q)) pa_nil)))))
      (pss_cons (ps_expr (pe_bm PySem.F.plainAttrs_list PySem.F.slot_list_append PySem.F.type_list_append mt_append (pv 4) (pa_cons (pe_cons (tw := tPairS cJ (.and (.v 0) (.or (.v 1) (.v 2))) (.or (.and (.v 0) (.v 1)) (.and (.v 0) (.v 2)))) (pe_tup (pa_cons (pe_op (op_andJ O hr3) (pv 0) (pe_op (op_orJ O hr3) (pv 1) (pv 2))) (pa_cons (pe_op (op_orJ O hr3) (pe_op (op_andJ O hr3) (pv 0) (pv 1)) (pe_op (op_andJ O hr3) (pv 0) (pv 2))) pa_nil))) (fun _ _ _ ⟨_, hv, dp, eq, q⟩ => rd_pair (l := (.and (.v 0) (.or (.v 1) (.v 2)))) (r := (.or (.and (.v 0) (.v 1)) (.and (.v 0) (.v 2)))) rfl rfl hv dp eq q)) pa_nil)))
      (pss_cons (ps_expr (pe_bm PySem.F.plainAttrs_list PySem.F.slot_list_append PySem.F.type_list_append mt_append (pv 4) (pa_cons (pe_cons (tw := tPairS cJ (.less (.v 0) (.or (.v 1) (.v 2))) (.less (.less (.v 0) (.v 1)) (.v 2))) (pe_tup (pa_cons (pe_op (op_subJ O hr3) (pv 0) (pe_op (op_orJ O hr3) (pv 1) (pv 2))) (pa_cons (pe_op (op_subJ O hr3) (pe_op (op_subJ O hr3) (pv 0) (pv 1)) (pv 2)) pa_nil))) (fun _ _ _ ⟨_, hv, dp, eq, q⟩ => rd_pair (l := (.less (.v 0) (.or (.v 1) (.v 2)))) (r := (.less (.less (.v 0) (.v 1)) (.v 2))) rfl rfl hv dp eq q)) pa_nil)))
      (pss_cons (ps_expr (pe_bm PySem.F.plainAttrs_list PySem.F.slot_list_extend PySem.F.type_list_extend mt_extend (pv 4) (pa_cons (pe_lst (pa_cons (pe_cons (tw := tPairS cJ (.or (.v 0) (.and (.v 0) (.v 1))) (.v 0)) (pe_tup (pa_cons (pe_op (op_orJ O hr3) (pv 0) (pe_op (op_andJ O hr3) (pv 0) (pv 1))) (pa_cons (pv 0) pa_nil))) (fun _ _ _ ⟨_, hv, dp, eq, q⟩ => rd_pair (l := (.or (.v 0) (.and (.v 0) (.v 1)))) (r := (.v 0)) rfl rfl hv dp eq q)) (pa_cons (pe_cons (tw := tPairS cJ (.and (.v 0) (.v 0)) (.v 0)) (pe_tup (pa_cons (pe_op (op_andJ O hr3) (pv 0) (pv 0)) (pa_cons (pv 0) pa_nil))) (fun _ _ _ ⟨_, hv, dp, eq, q⟩ => rd_pair (l := (.and (.v 0) (.v 0))) (r := (.v 0)) rfl rfl hv dp eq q)) (pa_cons (pe_cons (tw := tPairS cJ (.less (.v 0) (.v 0)) .mk) (pe_tup (pa_cons (pe_op (op_subJ O hr3) (pv 0) (pv 0)) (pa_cons (pe_make00 MR (by rfl) mR) pa_nil))) (fun _ _ _ ⟨_, hv, dp, eq, q⟩ => rd_pair (l := (.less (.v 0) (.v 0))) (r := .mk) rfl rfl hv dp eq q)) (pa_cons (pe_cons (tw := tPairS cJ (.or (.v 0) .mk) (.v 0)) (pe_tup (pa_cons (pe_op (op_orJ O hr3) (pv 0) (pe_make00 MR (by rfl) mR)) (pa_cons (pv 0) pa_nil))) (fun _ _ _ ⟨_, hv, dp, eq, q⟩ => rd_pair (l := (.or (.v 0) .mk)) (r := (.v 0)) rfl rfl hv dp eq q)) pa_nil))))) pa_nil)))
      (pss_one (ps_ret (pe_callB (cr_all rfl) (by rfl) z_all (by decide +kernel) (pa_cons (pe_lc (g := gTup K 2 (gCons (gName 5) (gCons (gName 6) gNil))) (tt := tYes) (te := tCall (spSa cJ 4) [] E0 (tCons (tVar 5) (tCons (tVar 6) (tCons (tVar 3) tNil)))) (own := [("_law_left", 5), ("_law_right", 6)]) (by rfl) sc__law_sets_right.nd (pi_list (pv 4)) (blkOk_by (N := n__law_sets_right) (sc := defScope s__law_sets_right) (by decide +kernel)) (fun _ _ _ _ _ => (pg_tup rfl (pgs_cons (pg_name (i := 5) sc__law_sets_right.nd rfl (.inl rfl)) (pgs_cons (pg_name (i := 6) sc__law_sets_right.nd rfl (.inl rfl)) pgs_nil)))) (fun _ _ _ _ _ => pts_nil) (fun _ _ _ _ _ => (pe_callGd GS gu hr (by rfl) DS.m DS.F.kp DS.b pass0 (pa_cons (pv 5) (pa_cons (pv 6) (pa_cons (pv 3) pa_nil)))))) pa_nil)))))))), ?_⟩
  obtain ⟨Ts, eTs⟩ : ∃ Ts : Nat → RT, Ts = fun i => if i = 0 then T else if i = 1 then U else W := ⟨_, rfl⟩
  have d0 : (Ts 0).dep ≤ 2 := by rw [eTs]; exact hdT
  have d1 : (Ts 1).dep ≤ 2 := by rw [eTs]; exact hdU
  have d2 : (Ts 2).dep ≤ 1 := by rw [eTs]; exact hdW
  have va : ∀ (H' : Hp) (o4 : Option V), Same H H' → VarsAt cJ Ts [some (.ref x), some (.ref y), some (.ref z), some (.ref vl), o4, none, none] H' := fun H' o4 s' i hi => by
    rw [eTs]
    match i, hi with
    | 0, _ => exact ⟨x, rfl, hT.same s'⟩
    | 1, _ => exact ⟨y, rfl, hU.same s'⟩
    | 2, _ => exact ⟨z, rfl, hW.same s'⟩
  refine ⟨Ts, va _ _ (Same.refl _), dp0 d0 d1 d2, eq0, fun H1 p1 s1 k1 => ⟨Ts, va _ _ s1, dp1 d0 d1 d2, eq1, fun H2 p2 s2 k2 => ⟨Ts, va _ _ (Same.trans s1 s2), dp2 d0 d1 d2, eq2, fun H3 p3 s3 k3 => ⟨line1000 (Nat.le_of_ble_eq_true rfl), fun LP nLP => ?_⟩⟩⟩⟩
  have t0 := Same.trans s1 (Same.trans s2 s3)
  have nL := t0.free nLP
  have sL := Same.up (o := HO.lst [V.ref p1, V.ref p2, V.ref p3]) nLP
  have t4 := Same.trans t0 sL
  have r4 : Prs cJ (upd H3 LP (HO.lst [V.ref p1, V.ref p2, V.ref p3])) LP [V.ref p1, V.ref p2, V.ref p3] := ⟨upd_same, fun v hv => by
    simp only [List.mem_cons, List.not_mem_nil, or_false] at hv
    rcases hv with rfl | rfl | rfl
    · exact k1.same (Same.trans s2 (Same.trans s3 sL))
    · exact k2.same (Same.trans s3 sL)
    · exact k3.same sL⟩
  generalize upd H3 LP (HO.lst [V.ref p1, V.ref p2, V.ref p3]) = H4 at r4 t4 ⊢
  clear sL nLP t0 k1 k2 k3 s1 s2 s3
  refine ⟨_, rfl, .inl ⟨rfl, _, SqL.of r4.g⟩, Ts, va _ _ t4, dp3 d0 d1 d2, eq3, fun H5 p4 s5 k4 => ⟨LP, _, _, rfl, rfl, s5 _ _ r4.g, lt_line (show 3 < 1000000 by decide), ?_⟩⟩
  have r6 := (r4.same s5).app (ys := [V.ref p4]) (fun v hv => by rw [List.mem_singleton.mp hv]; exact k4)
  have t6 := G.Same.putN (o := HO.lst ([V.ref p1, V.ref p2, V.ref p3] ++ [V.ref p4])) (Same.trans t4 s5) nL
  generalize upd H5 LP (HO.lst ([V.ref p1, V.ref p2, V.ref p3] ++ [V.ref p4])) = H6 at r6 t6 ⊢
  refine ⟨_, rfl, .inl ⟨rfl, _, SqL.of r6.g⟩, Ts, va _ _ t6, dp4 d0 d1 d2, eq4, fun H7 p5 s7 k5 => ⟨LP, _, _, rfl, rfl, s7 _ _ r6.g, lt_line (show 4 < 1000000 by decide), ?_⟩⟩
  have r8 := (r6.same s7).app (ys := [V.ref p5]) (fun v hv => by rw [List.mem_singleton.mp hv]; exact k5)
  have t8 := G.Same.putN (o := HO.lst ([V.ref p1, V.ref p2, V.ref p3] ++ [V.ref p4] ++ [V.ref p5])) (Same.trans t6 s7) nL
  generalize upd H7 LP (HO.lst ([V.ref p1, V.ref p2, V.ref p3] ++ [V.ref p4] ++ [V.ref p5])) = H8 at r8 t8 ⊢
  clear r6 t6 r4 t4 s5 s7 k4 k5
  refine ⟨_, rfl, .inl ⟨rfl, _, SqL.of r8.g⟩, Ts, va _ _ t8, dp5 d0 d1 d2, eq5, fun H9 p6 s9 k6 => ⟨Ts, va _ _ (Same.trans t8 s9), dp6 d0 d1 d2, eq6, fun Ha p7 sa k7 => ⟨Ts, va _ _ (Same.trans t8 (Same.trans s9 sa)), dp7 d0 d1 d2, eq7, fun Hb p8 sb k8 => ⟨Ts, va _ _ (Same.trans t8 (Same.trans s9 (Same.trans sa sb))), dp8 d0 d1 d2, eq8, fun Hc p9 sc k9 => ⟨line1000 (Nat.le_of_ble_eq_true rfl), fun LQ nLQ => ?_⟩⟩⟩⟩⟩
  have sQ := Same.up (o := HO.lst [V.ref p6, V.ref p7, V.ref p8, V.ref p9]) nLQ
  have gQ : upd Hc LQ (HO.lst [V.ref p6, V.ref p7, V.ref p8, V.ref p9]) LQ = some (.lst [V.ref p6, V.ref p7, V.ref p8, V.ref p9]) := upd_same
  have sac := Same.trans sa (Same.trans sb (Same.trans sc sQ))
  have t9 := Same.trans t8 (Same.trans s9 sac)
  have r9 := r8.same (Same.trans s9 sac)
  have kq : ∀ v ∈ [V.ref p6, V.ref p7, V.ref p8, V.ref p9], PairOk cJ (upd Hc LQ (HO.lst [V.ref p6, V.ref p7, V.ref p8, V.ref p9])) v := fun v hv => by
    simp only [List.mem_cons, List.not_mem_nil, or_false] at hv
    rcases hv with rfl | rfl | rfl | rfl
    · exact k6.same sac
    · exact k7.same (Same.trans sb (Same.trans sc sQ))
    · exact k8.same (Same.trans sc sQ)
    · exact k9.same sQ
  generalize upd Hc LQ (HO.lst [V.ref p6, V.ref p7, V.ref p8, V.ref p9]) = Hd at gQ t9 r9 kq ⊢
  refine ⟨LP, LQ, _, _, rfl, rfl, r9.g, gQ, Nat.le_of_lt (lt_line (show 5 + 4 < 1000000 by decide)), ?_⟩
  have rA := r9.app kq
  have tA := G.Same.putN (o := HO.lst ([V.ref p1, V.ref p2, V.ref p3] ++ [V.ref p4] ++ [V.ref p5] ++ [V.ref p6, V.ref p7, V.ref p8, V.ref p9])) t9 nL
  have lxs : ([V.ref p1, V.ref p2, V.ref p3] ++ [V.ref p4] ++ [V.ref p5] ++ [V.ref p6, V.ref p7, V.ref p8, V.ref p9]).length = 9 := rfl
  generalize [V.ref p1, V.ref p2, V.ref p3] ++ [V.ref p4] ++ [V.ref p5] ++ [V.ref p6, V.ref p7, V.ref p8, V.ref p9] = xs at rA tA lxs ⊢
  generalize upd Hd LP (HO.lst xs) = He at rA tA ⊢
  refine ⟨_, rfl, LP, rfl, ⟨_, SqL.of rA.g⟩, fun N nN => ?_⟩
  refine lc_list (xs := xs) (fun i H' => Same He H' ∧ H' N = some (.lst ((List.replicate i true).map V.bl))) ⟨Same.up nN, upd_same⟩ (fun i H' _ h => SqL.of (h.1 _ _ rA.g)) ?_ ?_
  · rintro i v H' hx ⟨s', gN⟩
    have hi := (List.getElem?_eq_some_iff.mp hx).1
    obtain ⟨p, r1, r2, T1, U1, rfl, gp, h1, h2, hd1, hd2, hq⟩ := (rA.k v (List.mem_of_getElem? hx)).same s'
    refine ⟨p, _, rfl, SqT.of gp, rfl, _, _, rfl, _, _, rfl, rfl, ?_⟩
    refine ⟨rfl, _, rfl, _, rfl, _, rfl, r1, r2, vl, T1, U1, rfl, hd1, hd2, h1, h2, hV.same (Same.trans tA s'), hq, fun H2 s2 => ⟨_, s2 _ _ gN, lt_line (by rw [List.length_map, List.length_replicate]; omega), G.Same.putN (Same.trans s' s2) nN, ?_⟩⟩
    rw [upd_same, List.replicate_succ', List.map_append]
    rfl
  · rintro H' ⟨s', gN⟩
    refine ⟨N, _, rfl, SqL.of gN, ?_⟩
    rw [show (List.replicate xs.length true).all id = true from List.all_eq_true.mpr fun b hb => List.eq_of_mem_replicate hb]
    exact q H' (Same.trans tA s')
end
end G

set_option Elab.async false
set_option linter.all false
set_option maxRecDepth 100000
set_option maxHeartbeats 8000000
/-! _law_long. -/
namespace G
open PySem PySem.Spec PyProof.Rows L2 StX
def jn : Nat → RT → RT → RT
  | 0, a, b => .and a b
  | 1, a, b => .or a b
  | _, a, b => .less a b
def jw : Nat → Str
  | 0 => "and"
  | 1 => "or"
  | _ => "less"
theorem jn_dep (k : Nat) (a b : RT) : (jn k a b).dep = max a.dep b.dep + 1 := by
  match k with
  | 0 => rfl
  | 1 => rfl
  | _ + 2 => rfl
theorem jn_told {H : Hp} {k : Nat} {t q y z : Addr} {a b : RT} (g : H t = some (.tup [.str (jw k), .ref q])) (gq : H q = some (.tup [.ref y, .ref z])) (ha : ToldT H y a) (hb : ToldT H z b) : ToldT H t (jn k a b) := by
  match k with
  | 0 => exact ⟨q, y, z, g, gq, ha, hb⟩
  | 1 => exact ⟨q, y, z, g, gq, ha, hb⟩
  | _ + 2 => exact ⟨q, y, z, g, gq, ha, hb⟩
theorem jw_at {k : Nat} (h : k < 3) : ([V.str "and", V.str "or", V.str "less"] : List V)[k]? = some (.str (jw k)) := by
  match k, h with
  | 0, _ => rfl
  | 1, _ => rfl
  | 2, _ => rfl
/-- the joined rule of a kind that was drawn -/
def tJn (cJ : JK → Addr) : TE := fun σ H Q => ∃ (x y : Addr) (T U : RT) (k : Nat), σ[2]? = some (some (.ref x)) ∧ σ[5]? = some (some (.ref y)) ∧ σ[7]? = some (some (.int (k : Int))) ∧ k < 3 ∧ RuleT cJ H x T ∧ RuleT cJ H y U ∧ ∀ H' r, Same H H' → RuleT cJ H' r (jn k T U) → Q (.ref r) H'
theorem wJn {X : Cx} {cJ : JK → Addr} : ∀ σ H Q, tJn cJ σ H Q → tIf (tTest (tOp rEq (tVar 7) (tC (.int 0)))) (tOp (tOpO X cJ .both) (tVar 2) (tVar 5)) (tIf (tTest (tOp rEq (tVar 7) (tC (.int 1)))) (tOp (tOpO X cJ .either) (tVar 2) (tVar 5)) (tOp (tOpO X cJ .without) (tVar 2) (tVar 5))) σ H Q := by
  intro σ H Q ⟨x, y, T, U, k, h2, h5, h7, hk, hT, hU, q⟩
  match k, hk, h7, q with
  | 0, _, h7, q => exact ⟨_, h7, rfl, _, rfl, iteT ⟨_, h2, _, h5, rd_and hT hU q⟩⟩
  | 1, _, h7, q => exact ⟨_, h7, rfl, _, rfl, iteF ⟨_, h7, rfl, _, rfl, iteT ⟨_, h2, _, h5, rd_or hT hU q⟩⟩⟩
  | 2, _, h7, q => exact ⟨_, h7, rfl, _, rfl, iteF ⟨_, h7, rfl, _, rfl, iteF ⟨_, h2, _, h5, rd_less hT hU q⟩⟩⟩
/-- tuple(_law_named(told, view)) -/
def tNmV (d j k : Nat) : TE := fun σ H Q => ∃ (x : Addr) (t : RT) (v : V) (m p : Int) (rows : List VR), σ[j]? = some (some (.ref x)) ∧ σ[k]? = some (some v) ∧ t.dep ≤ d ∧ ToldT H x t ∧ TD H v (viewD m p rows) ∧ GoodV rows ∧ ∀ H' l zs, Same H H' → H' l = some (.tup (intsN zs)) → NamedT p rows t zs → Q (.ref l) H'
section
variable {P : Program} {w : World} {K : PySem.W.Frag} {mg : Str → Option Value} {base : Heap} {cJ : JK → Addr}
theorem pe_nmV {X : Cx} {d j k : Nat} {e : Expr} {te : TE} (h : PE X e te) (w : ∀ σ H Q, tNmV d j k σ H Q → te σ H Q) : PE X e (tNmV d j k) := pe_cons h w
abbrev s__law_long : Stmt := top 22
abbrev n__law_long : List Str := ["_law_deck_here", "_law_views", "_law_rule_here", "_law_told", "_law_turn", "_law_other", "_law_more", "_law_kind", "_law_view_here"]
theorem sc__law_long : FnScope n__law_long ["_law_deck_here", "_law_views"] (defScope s__law_long) := ⟨rfl, rfl, rfl, by decide +kernel, rfl, by decide +kernel, by decide +kernel⟩
def spLg (cJ : JK → Addr) : Sp := fun vs H Q _ => ∃ (D L vl : Addr) (n : Nat), vs = [.ref D, .ref vl] ∧ Deck H D L n ∧ n < 10 ^ 10 ∧ Views H vl ∧ vl ∉ [D, L] ∧ ∀ H', Q (.bl true) H'
theorem ok_lg {f f1 fB fN : Addr} {fd d1 dB dN : FuncData} {g : JK → Addr} (F : Fun K "_law_long" "_law_long" s__law_long f fd) (T : Bi mg) (z_tuple : mg "tuple" = none) (z_repr : mg "repr" = none) (z_all : mg "all" = none) (O : OpsJ P w K mg base cJ) (CJ : CallJ P w K mg base cJ g)
    (D1 : Df K mg "_law_draw" s__law_draw ["_law_deck_here", "_law_many"] f1 d1) (G1 : FnOk P w K mg base CX0 1 f1 d1 ["_law_deck_here", "_law_many"] spDraw)
    (DB : Df K mg "_law_basic" s__law_basic ["_law_deck_here"] fB dB) (GB : FnOk P w K mg base CX0 3 fB dB ["_law_deck_here"] (spBa (fun k => cJ (.b k))))
    (DN : Df K mg "_law_named" s__law_named ["_law_told", "_law_view_here"] fN dN) (GN : FnOk P w K mg base CX0 22 fN dN ["_law_told", "_law_view_here"] (spNaT 20)) : FnOkG P w K mg base 24 f fd ["_law_deck_here", "_law_views"] (spLg cJ) := by
  refine G.Fun.okG F sc__law_long (fun vs H Q E ⟨_, _, _, _, ev, _⟩ => by rw [ev]; rfl) (fun cdv A outer s H vs Q E gA hr ⟨D, L, vl, n, ev, hD, hn, hV, nV, q⟩ => ?_)
  subst ev
  have hr1 : Room 1 _ := hr.mono (by decide)
  have hr3 : Room 3 _ := hr.mono (by decide)
  have hr22 : Room 22 _ := hr.mono (by decide)
  have hu101 : (A.deeper (envOfC "_law_long" (defScope s__law_long) s.heap.objs.size f cdv)).units + 101 < cLine := by have := hr.un; omega
  have gu : (A.deeper (envOfC "_law_long" (defScope s__law_long) s.heap.objs.size f cdv)).guards = some [] := gA
  refine ⟨_, (pss_cons (ps_asg (pe_call GB hr3 (by rfl) DB.m DB.F.kp DB.b .nil pass0 (pa_cons (pv 0) pa_nil)) (pg_tup rfl (pgs_cons (pg_name (i := 2) sc__law_long.nd rfl (.inr rfl)) (pgs_cons (pg_name (i := 3) sc__law_long.nd rfl (.inr rfl)) pgs_nil))))
      (pss_cons (ps_for PassesOwn.never rfl (pi_range1 (by rfl) T.z_range (pa_cons pe_int pa_nil)) (pg_name (i := 4) sc__law_long.nd rfl (.inl rfl))
      (pss_cons (ps_asg (pe_call GB hr3 (by rfl) DB.m DB.F.kp DB.b .nil pass0 (pa_cons (pv 0) pa_nil)) (pg_tup rfl (pgs_cons (pg_name (i := 5) sc__law_long.nd rfl (.inl rfl)) (pgs_cons (pg_name (i := 6) sc__law_long.nd rfl (.inl rfl)) pgs_nil))))
      (pss_cons (ps_set (i := 7) sc__law_long.nd rfl (.inl rfl) (pe_call G1 hr1 (by rfl) D1.m D1.F.kp D1.b .nil pass0 (pa_cons (pv 0) (pa_cons pe_int pa_nil))))
      (pss_cons (ps_set (i := 2) sc__law_long.nd rfl (.inr rfl) (pe_cons (tw := tJn cJ) (pe_ifExp (pt_cmpR op_eq (pv 7) pe_int (nomark _)) (pe_op (op_andJ O hr3) (pv 2) (pv 5)) (pe_ifExp (pt_cmpR op_eq (pv 7) pe_int (nomark _)) (pe_op (op_orJ O hr3) (pv 2) (pv 5)) (pe_op (op_subJ O hr3) (pv 2) (pv 5)))) wJn))
      (pss_one (ps_set (i := 3) sc__law_long.nd rfl (.inr rfl) (pe_tup (pa_cons (pe_ix ix_list (pe_lst (pa_cons pe_str (pa_cons pe_str (pa_cons pe_str pa_nil)))) (pv 7) (fun _ _ => rfl)) (pa_cons (pe_tup (pa_cons (pv 3) (pa_cons (pv 6) pa_nil))) pa_nil)))))))))
      (pss_one (ps_ret (pe_callB (cr_all rfl) (by rfl) z_all (by decide +kernel) (pa_cons (pe_lc (tt := tYes) (te := tOp rEq (tCB (rRp K) (tCons (tCaV cJ (spClT cJ 20) 2 8) tNil)) (tCB (rRp K) (tCons (tNmV 20 3 8) tNil))) (own := [("_law_view_here", 8)]) (by rfl) sc__law_long.nd (pi_list (pv 1)) (blkOk_by (N := n__law_long) (sc := defScope s__law_long) (by decide +kernel)) (fun _ _ _ _ _ => (pg_name (i := 8) sc__law_long.nd rfl (.inl rfl))) (fun _ _ _ _ _ => pts_nil)
      (fun _ _ _ _ _ => (pe_cmpR op_eq (pe_callB (call_rpP gu hu101) (by rfl) z_repr (by decide +kernel) (pa_cons (pe_cons (pe_ex fun k => pe_callO (pv 2) (CJ.c k) (CJ.f 20 k) hr pass0 (pa_cons (pv 8) pa_nil)) wCaV) pa_nil)) (pe_callB (call_rpP gu hu101) (by rfl) z_repr (by decide +kernel) (pa_cons (pe_nmV (pe_callTy call_tuple_of (by rfl) z_tuple (by decide +kernel) (pa_cons (pe_call GN hr22 (by rfl) DN.m DN.F.kp DN.b .nil pass0 (pa_cons (pv 3) (pa_cons (pv 8) pa_nil))) pa_nil)) (fun σ H Q ⟨x, t, v, m, p, rows, h1, h2, hd, hT, td, gv, q⟩ => ⟨_, h1, _, h2, x, t, v, m, p, rows, rfl, hd, hT, td, gv, fun H' LL zs s' gL hn => ⟨LL, _, rfl, .inl ⟨SqL.of gL, fun l nl => q _ l zs (Same.trans s' (Same.up nl)) upd_same hn⟩⟩⟩)) pa_nil)) (nomark _)))) pa_nil)))))), ?_⟩
  refine ⟨_, rfl, D, L, n, rfl, hD, by omega, fun H1 t1 x told d1 k1 hD1 gt1 hR1 hT1 => ⟨t1, _, rfl, SqT.of gt1, rfl, _, _, rfl, _, _, rfl, rfl, ?_⟩⟩
  refine ⟨_, rfl, by decide, by decide, for_range (lo := 0) (n := 20) (fun j σ H' => Deck H' D L (n + 20 + j * 30) ∧ Views H' vl ∧ ∃ (x told : Addr) (T : RT) (x4 x5 x6 x7 : Option V), RuleT cJ H' x T ∧ ToldT H' told T ∧ T.dep ≤ j ∧ σ = [some (.ref D), some (.ref vl), some (.ref x), some (.ref told), x4, x5, x6, x7, none]) ⟨hD1.mono (by omega), hV.ch (deck_ch hD hD1 k1) nV, x, told, .bas d1, none, none, none, none, hR1, hT1, Nat.zero_le _, rfl⟩ ?_ ?_⟩
  · rintro j σ H2 hj ⟨hD2, hV2, x, told, T, x4, x5, x6, x7, hR, hT, hd, rfl⟩
    refine ⟨_, rfl, D, L, _, rfl, hD2, by omega, fun H3 t3 y more d3 k3 hD3 gt3 hR3 hT3 => ⟨t3, _, rfl, SqT.of gt3, rfl, _, _, rfl, _, _, rfl, rfl, ?_⟩⟩
    have c3 := deck_ch hD2 hD3 k3
    have hU3 : RuleT cJ H3 y (.bas d3) := hR3
    have hM3 : ToldT H3 more (.bas d3) := hT3
    have hRx := hR.kp c3 (deck_ni hD2)
    have hTx := hT.ch c3
    have hV3 := hV2.ch c3 nV
    clear hR hT hV2 hR3 hT3
    refine ⟨.ref D, rfl, D, L, _, 3, rfl, hD3, by omega, by decide, by decide, fun H4 r4 k4 hD4 r40 r41 => ?_⟩
    obtain ⟨kk, rfl⟩ := Int.eq_ofNat_of_zero_le r40
    have hk : kk < 3 := by omega
    have c4 := deck_ch hD3 hD4 k4
    refine ⟨x, y, T, .bas d3, kk, rfl, rfl, rfl, hk, hRx.kp c4 (deck_ni hD3), hU3.kp c4 (deck_ni hD3), fun H5 r s5 hJ => ?_⟩
    have hV5 := (hV3.ch c4 nV).same s5
    have hTx5 := (hTx.ch c4).same s5
    have hM5 := (hM3.ch c4).same s5
    have hD5 := hD4.sm s5
    clear hRx hTx hV3 hU3 hM3 c3 c4
    refine ⟨line1000 (Nat.le_of_ble_eq_true rfl), fun l nl => ?_⟩
    have s6 := Same.up (o := HO.lst [V.str "and", V.str "or", V.str "less"]) nl
    refine ⟨_, rfl, l, _, _, _, rfl, rfl, SqL.of upd_same, atI_nat (j := kk) (jw_at hk), _, rfl, _, rfl, line1000 (Nat.le_of_ble_eq_true rfl), fun q0 n0 => ⟨line1000 (Nat.le_of_ble_eq_true rfl), fun t1 n1 => ?_⟩⟩
    have s7 := Same.up (o := HO.tup [V.ref told, V.ref more]) n0
    have s8 := Same.up (o := HO.tup [V.str (jw kk), V.ref q0]) n1
    have s78 := Same.trans s7 s8
    have s68 := Same.trans s6 s78
    refine ⟨(hD5.sm s68).mono (by omega), hV5.same s68, r, t1, jn kk T (.bas d3), _, _, _, _, hJ.same s68, jn_told upd_same (s8 _ _ upd_same) (hTx5.same s68) (hM5.same s68), ?_, rfl⟩
    rw [jn_dep]
    show max T.dep 0 + 1 ≤ j + 1
    omega
  · rintro σ H2 ⟨hD2, hV2, x, told, T, x4, x5, x6, x7, hR, hT, hd, rfl⟩
    obtain ⟨vvs, gV, lV, hv⟩ := hV2
    refine ⟨_, rfl, vl, rfl, ⟨_, SqL.of gV⟩, fun N nN => ?_⟩
    refine lc_list (xs := vvs) (fun i H' => Same H2 H' ∧ H' N = some (.lst ((List.replicate i true).map V.bl))) ⟨Same.up nN, upd_same⟩ (fun i H' _ h => SqL.of (h.1 _ _ gV)) ?_ ?_
    · rintro i v H' hx ⟨s', gN⟩
      have hi := (List.getElem?_eq_some_iff.mp hx).1
      obtain ⟨m, p, rows, td, gv, hm, hp, hc⟩ := (hv v (List.mem_of_getElem? hx)).ch (Ch.same (S := []) s')
      refine ⟨rfl, rd_ca rfl rfl (hR.same s') hd td gv fun H1 t1 zs s1 g1 n1 => ⟨.ref t1, .tuple (intD zs), rfl, TD.dp _ _ (.tup g1 (ints_tds _)), showy_namesT gv hc n1, ?_⟩⟩
      refine ⟨told, T, v, m, p, rows, rfl, rfl, hd, (hT.same s').same s1, TD.ch (Ch.same (S := []) s1) _ _ td, gv, fun H3 l ys s3 g3 n3 => ?_⟩
      have e : ys = zs := n3.eq n1 fun c => Iff.rfl
      subst e
      have s13 := Same.trans s1 s3
      refine ⟨.ref l, .tuple (intD ys), rfl, TD.dp _ _ (.tup g3 (ints_tds _)), showy_namesT gv hc n1, rfl, _, s13 _ _ gN, lt_line (by rw [List.length_map, List.length_replicate]; omega), G.Same.putN (Same.trans s' s13) nN, ?_⟩
      rw [upd_same, decide_eq_true rfl, List.replicate_succ', List.map_append]
      rfl
    · rintro H' ⟨s', gN⟩
      refine ⟨N, _, rfl, SqL.of gN, ?_⟩
      rw [show (List.replicate vvs.length true).all id = true from List.all_eq_true.mpr fun b hb => List.eq_of_mem_replicate hb]
      exact q H'
end
end G

set_option Elab.async false
set_option linter.all false
set_option maxRecDepth 100000
set_option maxHeartbeats 8000000
/-! k48's law. -/
namespace G
open PySem PySem.Spec PyProof.Rows L2 StX
section
variable {P : Program} {w : World} {K : PySem.W.Frag} {mg : Str → Option Value} {base : Heap} {cJ : JK → Addr}
abbrev s_law : Stmt := top 23
abbrev n_law : List Str := ["_law_script", "_law_deck_here", "_law_views", "_law_turn", "_law_rule_here", "_law_told", "_law_view_here", "_law_due", "_law_one_here", "_law_first", "_law_other", "_law_second", "_law_part", "_law_described", "_law_k"]
theorem sc_law : FnScope n_law ["_law_script"] (defScope s_law) := ⟨rfl, rfl, rfl, by decide +kernel, rfl, by decide +kernel, by decide +kernel⟩
theorem ok_law {f fD fV fR fN fSR fLg : Addr} {fd dD dV dR dN dSR dLg : FuncData} {g : JK → Addr} (F : Fun K "law" "law" s_law f fd) (T : Bi mg) (z_tuple : mg "tuple" = none) (z_repr : mg "repr" = none) (z_all : mg "all" = none) (CJ : CallJ P w K mg base cJ g) (Z : RlsT P w K mg base cJ 6 4)
    (DD : Df K mg "_law_deck" s__law_deck ["_law_script"] fD dD) (GD : FnOk P w K mg base CX0 1 fD dD ["_law_script"] (spDeck K))
    (DV : Df K mg "_law_view" s__law_view ["_law_deck_here"] fV dV) (GV : FnOk P w K mg base CX0 3 fV dV ["_law_deck_here"] spVw)
    (DR : Df K mg "_law_rule" s__law_rule ["_law_deck_here", "_law_deep"] fR dR) (GR4 : FnOk P w K mg base CX0 8 fR dR ["_law_deck_here", "_law_deep"] (spRu cJ 4)) (GR2 : FnOk P w K mg base CX0 6 fR dR ["_law_deck_here", "_law_deep"] (spRu cJ 2)) (GR1 : FnOk P w K mg base CX0 5 fR dR ["_law_deck_here", "_law_deep"] (spRu cJ 1))
    (DN : Df K mg "_law_named" s__law_named ["_law_told", "_law_view_here"] fN dN) (GN : FnOk P w K mg base CX0 6 fN dN ["_law_told", "_law_view_here"] (spNaT 4))
    (DSR : Df K mg "_law_sets_right" s__law_sets_right ["_law_one_here", "_law_other", "_law_third", "_law_views"] fSR dSR) (GSR : FnOkG P w K mg base 9 fSR dSR ["_law_one_here", "_law_other", "_law_third", "_law_views"] (spSR cJ))
    (DLg : Df K mg "_law_long" s__law_long ["_law_deck_here", "_law_views"] fLg dLg) (GLg : FnOkG P w K mg base 24 fLg dLg ["_law_deck_here", "_law_views"] (spLg cJ)) : FnOkG P w K mg base 25 f fd ["_law_script"] (spLawN K 63) := by
  refine G.Fun.okG F sc_law (fun vs H Q E ⟨a, ns, ev, _⟩ => by rw [ev]; rfl) (fun cdv A outer s H vs Q E gA hr ⟨a, ns, ev, hS, hlen, q⟩ => ?_)
  subst ev
  have hr1 : Room 1 _ := hr.mono (by decide)
  have hr3 : Room 3 _ := hr.mono (by decide)
  have hr6 : Room 6 _ := hr.mono (by decide)
  have hr7 : Room 7 _ := hr.mono (by decide)
  have hr9 : Room 9 _ := hr.mono (by decide)
  have hr24 : Room 24 _ := hr
  have hrR4 : Room 8 _ := hr.mono (by decide)
  have hrR2 : Room 6 _ := hr.mono (by decide)
  have hrR1 : Room 5 _ := hr.mono (by decide)
  have hu101 : (A.deeper (envOfC "law" (defScope s_law) s.heap.objs.size f cdv)).units + 101 < cLine := by have := hr.un; omega
  have gu : (A.deeper (envOfC "law" (defScope s_law) s.heap.objs.size f cdv)).guards = some [] := gA
  refine ⟨_, (pss_cons (ps_set (i := 1) sc_law.nd rfl (.inr rfl) (pe_call GD hr1 (by rfl) DD.m DD.F.kp DD.b .nil pass0 (pa_cons (pv 0) pa_nil)))
      (pss_cons (ps_setLc (i := 2) (tt := tYes) (te := tCall spVw [] E0 (tCons (tVar 1) tNil)) (own := [("_law_k", 14)]) (by rfl) sc_law.nd rfl rfl (sw_true rfl rfl rfl (by decide +kernel)) (pi_range1 (by rfl) T.z_range (pa_cons pe_int pa_nil)) (blkOk_by (N := n_law) (sc := defScope s_law) (by decide +kernel)) (fun _ _ _ _ _ => (pg_name (i := 14) sc_law.nd rfl (.inl rfl))) (fun _ _ _ _ _ => pts_nil) (fun _ _ _ _ _ => (pe_call GV hr3 (by rfl) DV.m DV.F.kp DV.b .nil pass0 (pa_cons (pv 1) pa_nil))))
      (pss_cons (ps_for PassesOwn.never rfl (pi_range1 (by rfl) T.z_range (pa_cons pe_int pa_nil)) (pg_name (i := 3) sc_law.nd rfl (.inl rfl))
      (pss_cons (ps_asg (pe_call GR4 hrR4 (by rfl) DR.m DR.F.kp DR.b .nil pass0 (pa_cons (pv 1) (pa_cons pe_int pa_nil))) (pg_tup rfl (pgs_cons (pg_name (i := 4) sc_law.nd rfl (.inl rfl)) (pgs_cons (pg_name (i := 5) sc_law.nd rfl (.inl rfl)) pgs_nil))))
      (pss_cons (ps_for PassesOwn.never rfl (pi_list (pv 2)) (pg_name (i := 6) sc_law.nd rfl (.inl rfl))
      (pss_cons (ps_set (i := 7) sc_law.nd rfl (.inl rfl) (pe_callB (call_rpP gu hu101) (by rfl) z_repr (by decide +kernel) (pa_cons (pe_nmV (d := 4) (j := 5) (k := 6) (pe_callTy call_tuple_of (by rfl) z_tuple (by decide +kernel) (pa_cons (pe_call GN hr6 (by rfl) DN.m DN.F.kp DN.b .nil pass0 (pa_cons (pv 5) (pa_cons (pv 6) pa_nil))) pa_nil)) (fun _ _ _ ⟨x, t, v, m, p, rows, h1, h2, hd, hT, td, gv, q⟩ => ⟨_, h1, _, h2, x, t, v, m, p, rows, rfl, hd, hT, td, gv, fun H1 LL zs s1 gL hn => ⟨LL, _, rfl, .inl ⟨SqL.of gL, fun l nl => q _ l zs (Same.trans s1 (Same.up nl)) upd_same hn⟩⟩⟩)) pa_nil)))
      (pss_one (ps_if (PW.pt (pw_or (pt_cmpR op_ne (pe_callB (call_rpP gu hu101) (by rfl) z_repr (by decide +kernel) (pa_cons (pe_cons (tw := tCaV cJ (spClT cJ 4) 4 6) (pe_ex fun k => pe_callO (pv 4) (CJ.c k) (CJ.f 4 k) hr7 pass0 (pa_cons (pv 6) pa_nil)) wCaV) pa_nil)) (pv 7) (nomark _)) (pw_or1 (pt_cmpR op_ne (pe_callB (call_rpP gu hu101) (by rfl) z_repr (by decide +kernel) (pa_cons (pe_methA (cO := cJ) (sp := spNT cJ 4) (pv 4) (fun k => ⟨Z.cl k, Z.nm k⟩) hr6 pass0 (pa_cons (pv 6) pa_nil)) pa_nil)) (pv 7) (nomark _)))))
      (pss_one (ps_ret pe_bl))
      pss_nil))))
      (pss_cons (ps_asg (pe_call GR2 hrR2 (by rfl) DR.m DR.F.kp DR.b .nil pass0 (pa_cons (pv 1) (pa_cons pe_int pa_nil))) (pg_tup rfl (pgs_cons (pg_name (i := 8) sc_law.nd rfl (.inl rfl)) (pgs_cons (pg_name (i := 9) sc_law.nd rfl (.inl rfl)) pgs_nil))))
      (pss_cons (ps_asg (pe_call GR2 hrR2 (by rfl) DR.m DR.F.kp DR.b .nil pass0 (pa_cons (pv 1) (pa_cons pe_int pa_nil))) (pg_tup rfl (pgs_cons (pg_name (i := 10) sc_law.nd rfl (.inl rfl)) (pgs_cons (pg_name (i := 11) sc_law.nd rfl (.inl rfl)) pgs_nil))))
      (pss_cons (ps_if (pt_not (pt_val (pe_callGd GSR gu hr9 (by rfl) DSR.m DSR.F.kp DSR.b pass0 (pa_cons (pv 8) (pa_cons (pv 10) (pa_cons (pe_ix ix_tup (pe_call GR1 hrR1 (by rfl) DR.m DR.F.kp DR.b .nil pass0 (pa_cons (pv 1) (pa_cons pe_int pa_nil))) pe_int (fun _ _ => rfl)) (pa_cons (pv 2) pa_nil))))))) 
      (pss_one (ps_ret pe_bl))
      pss_nil)
      (pss_one (ps_for PassesOwn.never rfl (pi_tup (pe_tup (pa_cons (pe_tup (pa_cons (pv 8) (pa_cons (pv 9) pa_nil))) (pa_cons (pe_tup (pa_cons (pv 10) (pa_cons (pv 11) pa_nil))) pa_nil)))) (pg_tup rfl (pgs_cons (pg_name (i := 12) sc_law.nd rfl (.inr rfl)) (pgs_cons (pg_name (i := 13) sc_law.nd rfl (.inr rfl)) pgs_nil)))
      (pss_one (ps_if (pt_not (pt_val (pe_callB (cr_all rfl) (by rfl) z_all (by decide +kernel) (pa_cons (pe_lc (tt := tYes) (te := tOp rEq (tCB (rRp K) (tCons (tCaV cJ (spClT cJ 4) 12 6) tNil)) (tCB (rRp K) (tCons (tNmV 4 13 6) tNil))) (own := [("_law_view_here", 6)]) (by rfl) sc_law.nd (pi_list (pv 2)) (blkOk_by (N := n_law) (sc := defScope s_law) (by decide +kernel)) (fun _ _ _ _ _ => (pg_name (i := 6) sc_law.nd rfl (.inl rfl))) (fun _ _ _ _ _ => pts_nil) (fun _ _ _ _ _ => (pe_cmpR op_eq (pe_callB (call_rpP gu hu101) (by rfl) z_repr (by decide +kernel) (pa_cons (pe_cons (pe_ex fun k => pe_callO (pv 12) (CJ.c k) (CJ.f 4 k) hr7 pass0 (pa_cons (pv 6) pa_nil)) wCaV) pa_nil)) (pe_callB (call_rpP gu hu101) (by rfl) z_repr (by decide +kernel) (pa_cons (pe_nmV (d := 4) (j := 13) (k := 6) (pe_callTy call_tuple_of (by rfl) z_tuple (by decide +kernel) (pa_cons (pe_call GN hr6 (by rfl) DN.m DN.F.kp DN.b .nil pass0 (pa_cons (pv 13) (pa_cons (pv 6) pa_nil))) pa_nil)) (fun _ _ _ ⟨x, t, v, m, p, rows, h1, h2, hd, hT, td, gv, q⟩ => ⟨_, h1, _, h2, x, t, v, m, p, rows, rfl, hd, hT, td, gv, fun H1 LL zs s1 gL hn => ⟨LL, _, rfl, .inl ⟨SqL.of gL, fun l nl => q _ l zs (Same.trans s1 (Same.up nl)) upd_same hn⟩⟩⟩)) pa_nil)) (nomark _)))) pa_nil))))
      (pss_one (ps_ret pe_bl))
      pss_nil))))))))))
      (pss_one (ps_ret (pe_callGd GLg gu hr24 (by rfl) DLg.m DLg.F.kp DLg.b pass0 (pa_cons (pv 1) (pa_cons (pv 2) pa_nil)))))))), ?_⟩
  have e4 : cR 4 = 650 := rfl
  have e2 : cR 2 = 146 := rfl
  have e1 : cR 1 = 62 := rfl
  refine ⟨_, rfl, a, ns, rfl, hS, hlen, fun H1 D L s1 hD nD nL => ?_⟩
  refine ⟨_, rfl, by decide, by decide, fun N nN => ?_⟩
  have nNd : N ∉ [D, L] := by simpa using hD.neD nN
  refine lc_range (lo := 0) (n := 5) (fun i H' => ∃ vvs : List V, Deck H' D L (0 + i * 1000) ∧ H' N = some (.lst vvs) ∧ vvs.length = i ∧ ∀ v ∈ vvs, View1 H' v) ⟨[], (hD.sm (Same.up nN)).mono (by omega), upd_same, rfl, fun _ z => nomatch z⟩ ?_ ?_
  · rintro i H' hi ⟨vvs, hD', gN, lv, hv⟩
    refine ⟨rfl, _, rfl, D, L, _, rfl, hD', by omega, fun H2 v m p rows k2 hD2 td gv hm hp hc => ?_⟩
    have c2 := deck_ch hD' hD2 k2
    have gN2 := c2.kp _ _ nNd gN
    have c3 : Ch [N] H2 (upd H2 N (.lst (vvs ++ [v]))) := (Ch.refl _ _).put (by simp) gN2 (fun xs z => by cases z)
    refine ⟨_, gN2, lt_line (by omega), vvs ++ [v], (dk_put hD2 nNd).mono (by omega), upd_same, by rw [List.length_append, lv]; rfl, fun u hu => ?_⟩
    rcases List.mem_append.mp hu with hu | hu
    · exact ((hv u hu).ch c2).ch c3
    · rw [List.mem_singleton.mp hu]
      exact View1.ch ⟨m, p, rows, td, gv, hm, hp, hc⟩ c3
  rintro H2 ⟨vvs, hD2, gN, lv, hv⟩
  have hV2 : Views H2 N := ⟨vvs, gN, Nat.le_of_eq lv, hv⟩
  clear gN hv lv vvs
  refine ⟨_, rfl, by decide, by decide, for_range (lo := 0) (n := 6) (fun j σ H' => Deck H' D L (5000 + j * 2000) ∧ Views H' N ∧ ∃ (x3 x4 x5 x6 x7 x8 x9 x10 x11 x12 x13 : Option V), σ = [some (.ref a), some (.ref D), some (.ref N), x3, x4, x5, x6, x7, x8, x9, x10, x11, x12, x13, none]) ⟨hD2.mono (by omega), hV2, none, none, none, none, none, none, none, none, none, none, none, rfl⟩ ?_ ?_⟩
  · clear hV2 hD2 hD s1 nD nL
    rintro j σ H3 hj ⟨hD3, hV3, x3, x4, x5, x6, x7, x8, x9, x10, x11, x12, x13, rfl⟩
    refine ⟨_, rfl, D, L, _, rfl, hD3, by omega, fun H4 t x told T k4 hD4 gt hR hT hd => ⟨t, _, rfl, SqT.of gt, rfl, _, _, rfl, _, _, rfl, rfl, ?_⟩⟩
    have c4 := deck_ch hD3 hD4 k4
    have hV4 := hV3.ch c4 nNd
    obtain ⟨vvs, gV, lV, hv⟩ := id hV4
    obtain ⟨dx, fs, hx, hl⟩ := hR.ins
    refine ⟨_, rfl, N, rfl, ⟨_, SqL.of gV⟩, for_list (xs := vvs) (fun i σ H' => Same H4 H' ∧ ∃ (x6 x7 : Option V), σ = [some (.ref a), some (.ref D), some (.ref N), some (.int (0 + (j : Int))), some (.ref x), some (.ref told), x6, x7, x8, x9, x10, x11, x12, x13, none]) ⟨Same.refl _, x6, x7, rfl⟩ (fun i σ H' _ h => SqL.of (h.1 _ _ gV)) ?_ ?_⟩
    · rintro i v σ H5 hx5 ⟨s5, x6, x7, rfl⟩
      obtain ⟨m, p, rows, td, gv, hm, hp, hc⟩ := (hv v (List.mem_of_getElem? hx5)).ch (Ch.same (S := []) s5)
      have hR5 := hR.same s5
      refine ⟨told, T, v, m, p, rows, rfl, rfl, hd, hT.same s5, td, gv, fun H6 l zs s6 g6 n6 => ⟨.ref l, .tuple (intD zs), rfl, TD.dp _ _ (.tup g6 (ints_tds _)), showy_namesT gv hc n6, ?_⟩⟩
      have td6 := TD.ch (Ch.same (S := []) s6) _ _ td
      have hR6 := hR5.same s6
      refine rd_ca rfl rfl hR6 hd td6 gv fun H7 t7 ys s7 g7 n7 => ?_
      have e : ys = zs := n7.eq n6 fun c => Iff.rfl
      subst e
      refine ⟨.ref t7, .tuple (intD ys), rfl, TD.dp _ _ (.tup g7 (ints_tds _)), showy_namesT gv hc n6, _, rfl, rfl, _, rfl, ?_⟩
      rw [decide_eq_true rfl]
      refine iteF ?_
      have td7 := TD.ch (Ch.same (S := []) s7) _ _ td6
      have hR7 := hR6.same s7
      have s57 := Same.trans s5 (Same.trans s6 s7)
      refine ⟨_, rfl, T.kind, x, dx, fs, rfl, s57 _ _ hx, hl, _, rfl, x, T, v, m, p, rows, rfl, rfl, hd, hR7, td7, gv, fun H8 t8 ws s8 g8 n8 => ?_⟩
      have e : ws = ys := n8.eq n6 fun c => Iff.rfl
      subst e
      refine ⟨.ref t8, .tuple (intD ws), rfl, TD.dp _ _ (.tup g8 (ints_tds _)), showy_namesT gv hc n6, _, rfl, rfl, _, rfl, ?_⟩
      rw [decide_eq_true rfl]
      exact iteF ⟨Same.trans s57 s8, _, _, rfl⟩
    rintro σ H5 ⟨s5, x6, x7, rfl⟩
    have hD5 := hD4.sm s5
    have hV5 := hV4.same s5
    clear hV4 hv gV lV vvs hx hl dx fs hT hR hd c4 hD4 k4 gt s5 hV3 hD3
    refine ⟨_, rfl, D, L, _, rfl, hD5, by omega, fun H6 t6 y8 told8 T8 k6 hD6 gt6 hR6 hT6 hd6 => ⟨t6, _, rfl, SqT.of gt6, rfl, _, _, rfl, _, _, rfl, rfl, ?_⟩⟩
    have c6 := deck_ch hD5 hD6 k6
    refine ⟨_, rfl, D, L, _, rfl, hD6, by omega, fun H7 t7 y10 told10 T10 k7 hD7 gt7 hR7 hT7 hd7 => ⟨t7, _, rfl, SqT.of gt7, rfl, _, _, rfl, _, _, rfl, rfl, ?_⟩⟩
    have c7 := deck_ch hD6 hD7 k7
    refine ⟨_, rfl, _, rfl, _, rfl, D, L, _, rfl, hD7, by omega, fun H8 t8 z toldz W k8 hD8 gt8 hR8 hT8 hd8 => ?_⟩
    have c8 := deck_ch hD7 hD8 k8
    have hRA := (hR6.kp c7 (deck_ni hD6)).kp c8 (deck_ni hD7)
    have hTA := (hT6.ch c7).ch c8
    have hRB := hR7.kp c8 (deck_ni hD7)
    have hTB := hT7.ch c8
    have hV8 := ((hV5.ch c6 nNd).ch c7 nNd).ch c8 nNd
    have hD8 := hD8.mono (show _ ≤ 5000 + j * 2000 + 1500 by omega)
    clear hR6 hT6 hR7 hT7 hV5 c6 c7 c8 hD5 hD6 hD7
    refine ⟨t8, _, _, _, rfl, rfl, SqT.of gt8, atI_nat (j := 0) rfl, _, rfl, y8, y10, z, N, T8, T10, W, rfl, hd6, hd7, hd8, hRA, hRB, hR8, hV8, fun H9 s9 => ⟨_, rfl, iteF ?_⟩⟩
    refine ⟨_, rfl, _, rfl, line1000 (Nat.le_of_ble_eq_true rfl), fun p1 n1 => ⟨_, rfl, _, rfl, line1000 (Nat.le_of_ble_eq_true rfl), fun p2 n2 => ⟨line1000 (Nat.le_of_ble_eq_true rfl), fun p3 n3 => ?_⟩⟩⟩
    have q1 := Same.up (o := HO.tup [V.ref y8, V.ref told8]) n1
    have q2 := Same.up (o := HO.tup [V.ref y10, V.ref told10]) n2
    have q3 := Same.up (o := HO.tup [V.ref p1, V.ref p2]) n3
    have q23 := Same.trans q2 q3
    have q8 := Same.trans s9 (Same.trans q1 q23)
    have g1 := q23 _ _ (show upd H9 p1 (HO.tup [V.ref y8, V.ref told8]) p1 = some (.tup [V.ref y8, V.ref told8]) from upd_same)
    have g2 := q3 _ _ (show upd (upd H9 p1 (HO.tup [V.ref y8, V.ref told8])) p2 (HO.tup [V.ref y10, V.ref told10]) p2 = some (.tup [V.ref y10, V.ref told10]) from upd_same)
    have g3 : upd (upd (upd H9 p1 (HO.tup [V.ref y8, V.ref told8])) p2 (HO.tup [V.ref y10, V.ref told10])) p3 (HO.tup [V.ref p1, V.ref p2]) p3 = some (.tup [V.ref p1, V.ref p2]) := upd_same
    generalize upd (upd (upd H9 p1 (HO.tup [V.ref y8, V.ref told8])) p2 (HO.tup [V.ref y10, V.ref told10])) p3 (HO.tup [V.ref p1, V.ref p2]) = Ha at g1 g2 g3 q8 ⊢
    have hDa := hD8.sm q8
    have hVa := hV8.same q8
    have hRA := hRA.same q8
    have hTA := hTA.same q8
    have hRB := hRB.same q8
    have hTB := hTB.same q8
    clear q1 q2 q3 q23 n1 n2 n3 s9 hV8 hD8
    have el : ∀ (i : Nat) (y : V), ([V.ref p1, V.ref p2] : List V)[i]? = some y → ∃ p x told T, y = .ref p ∧ Ha p = some (.tup [.ref x, .ref told]) ∧ RuleT cJ Ha x T ∧ ToldT Ha told T ∧ T.dep ≤ 4 := fun i y h => by
      match i, h with
      | 0, h => cases h; exact ⟨_, _, _, _, rfl, g1, hRA, hTA, by omega⟩
      | 1, h => cases h; exact ⟨_, _, _, _, rfl, g2, hRB, hTB, by omega⟩
    refine ⟨p3, rfl, ⟨_, SqT.of g3⟩, for_tup (xs := [V.ref p1, V.ref p2]) (fun i σ H' => Same Ha H' ∧ ∃ (x12 x13 : Option V), σ = [some (.ref a), some (.ref D), some (.ref N), some (.int (0 + (j : Int))), some (.ref x), some (.ref told), x6, x7, some (.ref y8), some (.ref told8), some (.ref y10), some (.ref told10), x12, x13, none]) ⟨Same.refl _, x12, x13, rfl⟩ (fun i σ H' _ h => SqT.of (h.1 _ _ g3)) ?_ ?_⟩
    · rintro i y σ Hb hy ⟨sb, x12, x13, rfl⟩
      obtain ⟨p, r, rt, R, rfl, gp, hRr, hTr, hdr⟩ := el i y hy
      obtain ⟨vvs, gV, lV, hv⟩ := hVa.same sb
      refine ⟨p, _, rfl, SqT.of (sb _ _ gp), rfl, _, _, rfl, _, _, rfl, rfl, ?_⟩
      refine ⟨_, rfl, N, rfl, ⟨_, SqL.of gV⟩, fun M nM => ?_⟩
      refine lc_list (xs := vvs) (fun i H' => Same Hb H' ∧ H' M = some (.lst ((List.replicate i true).map V.bl))) ⟨Same.up nM, upd_same⟩ (fun i H' _ h => SqL.of (h.1 _ _ gV)) ?_ ?_
      · rintro i v H' hx ⟨s', gM⟩
        have hi := (List.getElem?_eq_some_iff.mp hx).1
        obtain ⟨m, p, rows, td, gv, hm, hp, hc⟩ := (hv v (List.mem_of_getElem? hx)).ch (Ch.same (S := []) s')
        have sb' := Same.trans sb s'
        refine ⟨rfl, rd_ca rfl rfl (hRr.same sb') hdr td gv fun H1 t1 zs s1 g1 n1 => ⟨.ref t1, .tuple (intD zs), rfl, TD.dp _ _ (.tup g1 (ints_tds _)), showy_namesT gv hc n1, ?_⟩⟩
        refine ⟨rt, R, v, m, p, rows, rfl, rfl, hdr, (hTr.same sb').same s1, TD.ch (Ch.same (S := []) s1) _ _ td, gv, fun H3 l ys s3 g3 n3 => ?_⟩
        have e : ys = zs := n3.eq n1 fun c => Iff.rfl
        subst e
        have s13 := Same.trans s1 s3
        refine ⟨.ref l, .tuple (intD ys), rfl, TD.dp _ _ (.tup g3 (ints_tds _)), showy_namesT gv hc n1, rfl, _, s13 _ _ gM, lt_line (by rw [List.length_map, List.length_replicate]; omega), G.Same.putN (Same.trans s' s13) nM, ?_⟩
        rw [upd_same, decide_eq_true rfl, List.replicate_succ', List.map_append]
        rfl
      · rintro H' ⟨s', gM⟩
        refine ⟨M, _, rfl, SqL.of gM, ?_⟩
        rw [show (List.replicate vvs.length true).all id = true from List.all_eq_true.mpr fun b hb => List.eq_of_mem_replicate hb]
        exact ⟨_, rfl, iteF ⟨Same.trans sb s', _, _, rfl⟩⟩
    · rintro σ Hb ⟨sb, x12, x13, rfl⟩
      exact ⟨(hDa.sm sb).mono (by omega), hVa.same sb, _, _, _, _, _, _, _, _, _, _, _, rfl⟩
  · rintro σ H3 ⟨hD3, hV3, x3, x4, x5, x6, x7, x8, x9, x10, x11, x12, x13, rfl⟩
    exact ⟨_, rfl, _, rfl, D, L, N, _, rfl, hD3, by omega, hV3, nNd, fun H' => q H'⟩
end
end G

set_option Elab.async false
set_option linter.all false
set_option maxRecDepth 100000
set_option maxHeartbeats 8000000
/-! the classes of rules by their names; what the operators want of them. -/
namespace G
open PySem PySem.Spec PyProof.Rows L2 StX
def cN : RK → Str
  | .never => "Rule"
  | .all => "AtOnce"
  | .counting => "Counting"
  | .above => "Above"
  | .places => "Places"
def cN2 : JK → Str
  | .b k => cN k
  | .both => "Both"
  | .either => "Either"
  | .without => "Without"
def cOf2 (K : PySem.W.Frag) (k : JK) : Addr := He.ga K (cN2 k)
def jNames : List Str := ["Rule", "AtOnce", "Counting", "Above", "Places", "Both", "Either", "Without"]
theorem cN2_mem (k : JK) : cN2 k ∈ jNames := by
  rcases k with (_ | _ | _ | _ | _) | _ | _ | _ <;> simp [cN2, cN, jNames]
def opB (K : PySem.W.Frag) (x : Str) : Bool := PySem.W.selfFirst K (He.ga K x) && ((PySem.W.typeIn K (.ref (He.ga K x)) == some (.type "type")) && (He.eqO (PySem.W.findIn K (.ref (He.ga K x)) "__rand__") (some none) && (He.eqO (PySem.W.findIn K (.ref (He.ga K x)) "__ror__") (some none) && (He.eqO (PySem.W.findIn K (.ref (He.ga K x)) "__rsub__") (some none) &&
  (match PySem.W.clsIn K (He.ga K x) with
  | some cd => decide (cd.name = x)
  | none => false)))))
def exJ (K : PySem.W.Frag) : Bool := (PySem.W.nsIn K cStatics "thirdparty.any" == some none) && (jNames.all (opB K) && jNames.all fun x => jNames.all fun y => (PySem.W.subIn K (.ref (He.ga K y)) (.ref (He.ga K x))).isSome)
theorem dr_and : dunderR "and" = ("__rand__" : Str) := by decide +kernel
theorem dr_sub : dunderR "sub" = ("__rsub__" : Str) := by decide +kernel
theorem du_and : PySem.dunder "and" = ("__and__" : Str) := by decide +kernel
theorem du_or : PySem.dunder "or" = ("__or__" : Str) := by decide +kernel
theorem du_sub : PySem.dunder "sub" = ("__sub__" : Str) := by decide +kernel
theorem ty_and : PySem.W.findIn [] (.type "type") "__rand__" = some none := by decide +kernel
theorem ty_sub : PySem.W.findIn [] (.type "type") "__rsub__" = some none := by decide +kernel
theorem nm_fits : ∀ x ∈ jNames, x.cps.foldl (fun k c => k + (Str.utf8Of c).length) 0 ≤ 100 ∧ ∀ r ∈ (["__rand__", "__ror__", "__rsub__"] : List Str), ((Str.ofString (toString "type object '" ++ toString x.toString ++ toString "' has no attribute '") : Str) ++ r ++ Str.ofString "'").length ≤ 1000 := by decide +kernel
theorem nm_of {K : PySem.W.Frag} {x : Str} (hx : x ∈ jNames) (h : (match PySem.W.clsIn K (He.ga K x) with
  | some cd => decide (cd.name = x)
  | none => false) = true) {r : Str} (hr : r ∈ (["__rand__", "__ror__", "__rsub__"] : List Str)) : ∃ cd, PySem.W.clsIn K (He.ga K x) = some cd ∧ cd.name.cps.foldl (fun k c => k + (Str.utf8Of c).length) 0 ≤ 100 ∧ ((Str.ofString (toString "type object '" ++ toString cd.name.toString ++ toString "' has no attribute '") : Str) ++ r ++ Str.ofString "'").length ≤ sizeLine := by
  split at h
  · rename_i cd e
    have en : cd.name = x := of_decide_eq_true h
    obtain ⟨h1, h2⟩ := nm_fits x hx
    refine ⟨cd, e, by rw [en]; exact h1, ?_⟩
    rw [en]
    exact Nat.le_trans (h2 r hr) (by rw [sizeLine_eq]; decide)
  · cases h
section
variable {K : PySem.W.Frag} {x : Str} {f : Addr}
theorem bin_and (ho : PySem.W.nsIn K cStatics "thirdparty.any" = some none) (hx : x ∈ jNames) (h : opB K x = true) (m : Meth K (He.ga K x) "__and__" f) : BinC K (He.ga K x) f "and" := by
  obtain ⟨h1, h⟩ := He.ba h
  obtain ⟨h2, h⟩ := He.ba h
  obtain ⟨h3, h⟩ := He.ba h
  obtain ⟨h4, h⟩ := He.ba h
  obtain ⟨h5, h⟩ := He.ba h
  have h3 := He.eqO_ok h3
  refine ⟨h1, by rw [du_and]; exact m.at_, m.fn, by rw [dr_and]; exact h3, ?_⟩
  rw [dr_and]
  exact ⟨ho, beq_iff_eq.mp h2, ty_and, h3, nm_of hx h (by simp)⟩
theorem bin_or (ho : PySem.W.nsIn K cStatics "thirdparty.any" = some none) (hx : x ∈ jNames) (h : opB K x = true) (m : Meth K (He.ga K x) "__or__" f) : BinO K (He.ga K x) f "or" ∧ RorA K (He.ga K x) ∧ ∃ cd, PySem.W.clsIn K (He.ga K x) = some cd := by
  obtain ⟨h1, h⟩ := He.ba h
  obtain ⟨h2, h⟩ := He.ba h
  obtain ⟨h3, h⟩ := He.ba h
  obtain ⟨h4, h⟩ := He.ba h
  obtain ⟨h5, h⟩ := He.ba h
  have h4 := He.eqO_ok h4
  obtain ⟨cd, e, _⟩ := nm_of hx h (r := "__ror__") (by simp)
  exact ⟨⟨h1, by rw [du_or]; exact m.at_, m.fn, by rw [dr_or]; exact h4⟩, ⟨ho, beq_iff_eq.mp h2, h4⟩, cd, e⟩
theorem BinC.o {nm : String} {C f : Addr} (h : BinC K C f nm) : BinO K C f nm := ⟨h.self, h.at_, h.fn, h.re⟩
theorem bin_sub (ho : PySem.W.nsIn K cStatics "thirdparty.any" = some none) (hx : x ∈ jNames) (h : opB K x = true) (m : Meth K (He.ga K x) "__sub__" f) : BinC K (He.ga K x) f "sub" := by
  obtain ⟨h1, h⟩ := He.ba h
  obtain ⟨h2, h⟩ := He.ba h
  obtain ⟨h3, h⟩ := He.ba h
  obtain ⟨h4, h⟩ := He.ba h
  obtain ⟨h5, h⟩ := He.ba h
  have h5 := He.eqO_ok h5
  refine ⟨h1, by rw [du_sub]; exact m.at_, m.fn, by rw [dr_sub]; exact h5, ?_⟩
  rw [dr_sub]
  exact ⟨ho, beq_iff_eq.mp h2, ty_sub, h5, nm_of hx h (by simp)⟩
theorem exJ_ok (h : exJ K = true) : PySem.W.nsIn K cStatics "thirdparty.any" = some none ∧ (∀ k : JK, opB K (cN2 k) = true) ∧ ∀ i j : JK, ∃ b, PySem.W.subIn K (.ref (cOf2 K j)) (.ref (cOf2 K i)) = some b := by
  obtain ⟨h1, h⟩ := He.ba h
  obtain ⟨h2, h3⟩ := He.ba h
  refine ⟨beq_iff_eq.mp h1, fun k => List.all_eq_true.mp h2 _ (cN2_mem k), fun i j => ?_⟩
  have := List.all_eq_true.mp (List.all_eq_true.mp h3 _ (cN2_mem i)) _ (cN2_mem j)
  exact Option.isSome_iff_exists.mp this
end
section
variable {P : Program} {w : World} {K : PySem.W.Frag} {mg : Str → Option Value} {base : Heap}
theorem fits6 {nm : String} (h : (dunderR nm).length ≤ 1000) : (dunderR nm).length ≤ sizeLine := Nat.le_trans h (by rw [sizeLine_eq]; decide)
theorem ops_of (h : exJ K = true) (ma : ∀ k : JK, ∃ f, Meth K (cOf2 K k) "__and__" f ∧ FnR P w K mg base CX0 3 f (spOp (cOf2 K) .both)) (mo : ∀ k : JK, ∃ f, Meth K (cOf2 K k) "__or__" f ∧ FnR P w K mg base CX0 3 f (spOp (cOf2 K) .either)) (ms : ∀ k : JK, ∃ f, Meth K (cOf2 K k) "__sub__" f ∧ FnR P w K mg base CX0 3 f (spOp (cOf2 K) .without)) : OpsJ P w K mg base (cOf2 K) := by
  obtain ⟨ho, hb, hs⟩ := exJ_ok h
  have ba := fun k => let ⟨f, m, F⟩ := ma k; (⟨f, bin_and ho (cN2_mem k) (hb k) m, F⟩ : ∃ f, BinC K (cOf2 K k) f "and" ∧ FnR P w K mg base CX0 3 f (spOp (cOf2 K) .both))
  have bs := fun k => let ⟨f, m, F⟩ := ms k; (⟨f, bin_sub ho (cN2_mem k) (hb k) m, F⟩ : ∃ f, BinC K (cOf2 K k) f "sub" ∧ FnR P w K mg base CX0 3 f (spOp (cOf2 K) .without))
  have bo := fun k => let ⟨f, m, F⟩ := mo k; (⟨f, bin_or ho (cN2_mem k) (hb k) m, F⟩ : ∃ f, (BinO K (cOf2 K k) f "or" ∧ RorA K (cOf2 K k) ∧ ∃ cd, PySem.W.clsIn K (cOf2 K k) = some cd) ∧ FnR P w K mg base CX0 3 f (spOp (cOf2 K) .either))
  refine ⟨⟨fun k => ?_, fun i j A s Q E X hh hu hne hq => ?_, hs⟩, ⟨fun k => ?_, fun i j A s Q E X hh hu hne hq => ?_, hs⟩, ⟨fun k => ?_, fun i j A s Q E X hh hu hne hq => ?_, hs⟩⟩
  · obtain ⟨f, b, F⟩ := ba k
    exact ⟨f, b.o, F⟩
  · obtain ⟨f, b, _⟩ := ba i
    obtain ⟨f2, b2, _⟩ := ba j
    exact refl_none X hh b b2 (fits6 (by decide +kernel)) fun h' t' g => hq h' t' false g
  · obtain ⟨f, b, F⟩ := bo k
    exact ⟨f, b.1, F⟩
  · obtain ⟨f, ⟨b, r, cd, e⟩, _⟩ := bo i
    obtain ⟨f2, ⟨b2, r2, cd2, e2⟩, _⟩ := bo j
    exact refl_ror X hu hne b b2 e e2 r r2 fun h' t' g => hq h' t' true g
  · obtain ⟨f, b, F⟩ := bs k
    exact ⟨f, b.o, F⟩
  · obtain ⟨f, b, _⟩ := bs i
    obtain ⟨f2, b2, _⟩ := bs j
    exact refl_none X hh b b2 (fits6 (by decide +kernel)) fun h' t' g => hq h' t' false g
end
end G

set_option Elab.async false
set_option linter.all false
set_option maxRecDepth 100000
set_option maxHeartbeats 8000000
/-! The head of maybegone_k48_rules_by_operators: what the Hook looks at, what follows from it. Written by mkHF.py. -/
namespace G
open PySem PySem.Spec PyProof.Rows L2 StX ClX
def fn : List He.DefD := ([dDef "_unreached" s__unreached, dDef "_law_deck" s__law_deck, dDef "_law_draw" s__law_draw, dDef "_law_one" s__law_one, dDef "_law_view" s__law_view, dDef "_law_basic" s__law_basic, dDef "_law_rule" s__law_rule, dDef "_law_counted" s__law_counted, dDef "_law_named" s__law_named, dDef "_law_same" s__law_same, dDef "_law_sets_right" s__law_sets_right, dDef "_law_long" s__law_long, dDef "law" s_law, dMet "Above" "__init__" "Above.__init__" s_binit, dMet "Both" "__init__" "Joined.__init__" s_jinit, dMet "Either" "__init__" "Joined.__init__" s_jinit, dMet "Without" "__init__" "Joined.__init__" s_jinit, dMet "Rule" "names" "Rule.names" s_rnames, dMet "AtOnce" "names" "AtOnce.names" s_anames, dMet "Counting" "names" "Counting.names" s_cnames, dMet "Above" "names" "Above.names" s_bnames, dMet "Places" "names" "Places.names" s_pnames, dMet "Both" "names" "Both.names" s_bonames, dMet "Either" "names" "Either.names" s_eonames, dMet "Without" "names" "Without.names" s_wonames, dMet "Rule" "__call__" "Rule.__call__" s_rcall, dMet "AtOnce" "__call__" "Rule.__call__" s_rcall, dMet "Counting" "__call__" "Rule.__call__" s_rcall, dMet "Above" "__call__" "Rule.__call__" s_rcall, dMet "Places" "__call__" "Rule.__call__" s_rcall] : List _) ++ ([dMet "Both" "__call__" "Rule.__call__" s_rcall, dMet "Either" "__call__" "Rule.__call__" s_rcall, dMet "Without" "__call__" "Rule.__call__" s_rcall, dMet "Rule" "__and__" "Rule.__and__" s_oand, dMet "AtOnce" "__and__" "Rule.__and__" s_oand, dMet "Counting" "__and__" "Rule.__and__" s_oand, dMet "Above" "__and__" "Rule.__and__" s_oand, dMet "Places" "__and__" "Rule.__and__" s_oand, dMet "Both" "__and__" "Rule.__and__" s_oand, dMet "Either" "__and__" "Rule.__and__" s_oand, dMet "Without" "__and__" "Rule.__and__" s_oand, dMet "Rule" "__or__" "Rule.__or__" s_oor, dMet "AtOnce" "__or__" "Rule.__or__" s_oor, dMet "Counting" "__or__" "Rule.__or__" s_oor, dMet "Above" "__or__" "Rule.__or__" s_oor, dMet "Places" "__or__" "Rule.__or__" s_oor, dMet "Both" "__or__" "Rule.__or__" s_oor, dMet "Either" "__or__" "Rule.__or__" s_oor, dMet "Without" "__or__" "Rule.__or__" s_oor, dMet "Rule" "__sub__" "Rule.__sub__" s_osub, dMet "AtOnce" "__sub__" "Rule.__sub__" s_osub, dMet "Counting" "__sub__" "Rule.__sub__" s_osub, dMet "Above" "__sub__" "Rule.__sub__" s_osub, dMet "Places" "__sub__" "Rule.__sub__" s_osub, dMet "Both" "__sub__" "Rule.__sub__" s_osub, dMet "Either" "__sub__" "Rule.__sub__" s_osub, dMet "Without" "__sub__" "Rule.__sub__" s_osub, dMet "Places" "__init__" "Places.__init__" s_pinit] : List _)
def fa : List He.Fa := ([.glo "_unreached", .glo "_law_deck", .glo "_law_draw", .glo "_law_one", .glo "_law_view", .glo "_law_basic", .glo "_law_rule", .glo "_law_counted", .glo "_law_named", .glo "_law_same", .glo "_law_sets_right", .glo "_law_long", .glo "law", .meth "Rule" "names", .meth "AtOnce" "names", .meth "Counting" "names", .meth "Above" "names", .meth "Places" "names", .meth "Both" "names", .meth "Either" "names", .meth "Without" "names", .meth "Rule" "__call__", .meth "AtOnce" "__call__", .meth "Counting" "__call__", .meth "Above" "__call__", .meth "Places" "__call__", .meth "Both" "__call__", .meth "Either" "__call__", .meth "Without" "__call__", .meth "Rule" "__and__"] : List _) ++ ([.meth "AtOnce" "__and__", .meth "Counting" "__and__", .meth "Above" "__and__", .meth "Places" "__and__", .meth "Both" "__and__", .meth "Either" "__and__", .meth "Without" "__and__", .meth "Rule" "__or__", .meth "AtOnce" "__or__", .meth "Counting" "__or__", .meth "Above" "__or__", .meth "Places" "__or__", .meth "Both" "__or__", .meth "Either" "__or__", .meth "Without" "__or__", .meth "Rule" "__sub__", .meth "AtOnce" "__sub__", .meth "Counting" "__sub__", .meth "Above" "__sub__", .meth "Places" "__sub__", .meth "Both" "__sub__", .meth "Either" "__sub__", .meth "Without" "__sub__", .free "len", .free "abs", .free "int", .free "range", .mkr "Places", .mkr "Above", .mkr "Both"] : List _) ++ ([.mkr "Either", .mkr "Without", .noat "Places" "_places", .noat "Above" "_most", .noat "Both" "_one", .noat "Both" "_other", .noat "Either" "_one", .noat "Either" "_other", .noat "Without" "_one", .noat "Without" "_other", .cls "Places", .cls "Above", .free "tuple", .cls "Rule", .cls "AtOnce", .cls "Counting", .free "sorted", .cls "Both", .cls "Either", .cls "Without", .free "set", .glo "Both", .glo "Either", .glo "Without", .free "max", .glo "Rule", .glo "AtOnce", .glo "Counting", .glo "Places", .glo "Above"] : List _) ++ ([.free "repr", .free "all"] : List _)
def ts : List He.Tab := []
def ex (K : PySem.W.Frag) : Bool := ((PySem.W.makesIn K (He.ga K "Rule") && (He.eqO (PySem.W.findIn K (.ref (He.ga K "Rule")) "__init__") (some (some (.builtin "object.__init__"))) && PySem.W.keepIn K (.ref (He.ga K "Rule")))) && ((PySem.W.makesIn K (He.ga K "AtOnce") && (He.eqO (PySem.W.findIn K (.ref (He.ga K "AtOnce")) "__init__") (some (some (.builtin "object.__init__"))) && PySem.W.keepIn K (.ref (He.ga K "AtOnce")))) && (PySem.W.makesIn K (He.ga K "Counting") && (He.eqO (PySem.W.findIn K (.ref (He.ga K "Counting")) "__init__") (some (some (.builtin "object.__init__"))) && PySem.W.keepIn K (.ref (He.ga K "Counting")))))) && ((PySem.W.fnIn K (He.ma K (He.ga K "Rule") "__call__") && (PySem.W.fnIn K (He.ma K (He.ga K "AtOnce") "__call__") && (PySem.W.fnIn K (He.ma K (He.ga K "Counting") "__call__") && (PySem.W.fnIn K (He.ma K (He.ga K "Above") "__call__") && (PySem.W.fnIn K (He.ma K (He.ga K "Places") "__call__") && (PySem.W.fnIn K (He.ma K (He.ga K "Both") "__call__") && (PySem.W.fnIn K (He.ma K (He.ga K "Either") "__call__") && PySem.W.fnIn K (He.ma K (He.ga K "Without") "__call__")))))))) && exJ K)
theorem facts {P : Program} {w : World} {K : PySem.W.Frag} {h : Heap} {mg : Str → Option Value} {f : Addr} (X : K.In h) (G : h.Ns mainGlobals mg) (hfa : mg ("law" : Str) = some (.ref f)) (cX : SaysS fa fn ts ex w K) :
    ∃ fd : FuncData, (∀ (s : Shared) (v : Value), BindsTo s fd ⟨[v], []⟩ [("_law_script", v)]) ∧ ∀ base : Heap, K.In base → base.Ns mainGlobals mg → FnOkG P w K mg base 25 f fd ["_law_script"] (spLawN K 63) := by
  have c := cX.t.d
  obtain ⟨d_unreached, D_unreached⟩ := dfx (st := s__unreached) (ps := ["view"]) X G c 0 0 (fun _ _ _ _ _ _ us hl => match us, hl with | [_], _ => rfl) rfl rfl
  obtain ⟨d_law_deck, D_law_deck⟩ := dfx (st := s__law_deck) (ps := ["_law_script"]) X G c 1 1 (fun _ _ _ _ _ _ us hl => match us, hl with | [_], _ => rfl) rfl rfl
  obtain ⟨d_law_draw, D_law_draw⟩ := dfx (st := s__law_draw) (ps := ["_law_deck_here", "_law_many"]) X G c 2 2 (fun _ _ _ _ _ _ us hl => match us, hl with | [_, _], _ => rfl) rfl rfl
  obtain ⟨d_law_one, D_law_one⟩ := dfx (st := s__law_one) (ps := ["_law_deck_here", "_law_items"]) X G c 3 3 (fun _ _ _ _ _ _ us hl => match us, hl with | [_, _], _ => rfl) rfl rfl
  obtain ⟨d_law_view, D_law_view⟩ := dfx (st := s__law_view) (ps := ["_law_deck_here"]) X G c 4 4 (fun _ _ _ _ _ _ us hl => match us, hl with | [_], _ => rfl) rfl rfl
  obtain ⟨d_law_basic, D_law_basic⟩ := dfx (st := s__law_basic) (ps := ["_law_deck_here"]) X G c 5 5 (fun _ _ _ _ _ _ us hl => match us, hl with | [_], _ => rfl) rfl rfl
  obtain ⟨d_law_rule, D_law_rule⟩ := dfx (st := s__law_rule) (ps := ["_law_deck_here", "_law_deep"]) X G c 6 6 (fun _ _ _ _ _ _ us hl => match us, hl with | [_, _], _ => rfl) rfl rfl
  obtain ⟨d_law_counted, D_law_counted⟩ := dfx (st := s__law_counted) (ps := ["_law_rows"]) X G c 7 7 (fun _ _ _ _ _ _ us hl => match us, hl with | [_], _ => rfl) rfl rfl
  obtain ⟨d_law_named, D_law_named⟩ := dfx (st := s__law_named) (ps := ["_law_told", "_law_view_here"]) X G c 8 8 (fun _ _ _ _ _ _ us hl => match us, hl with | [_, _], _ => rfl) rfl rfl
  obtain ⟨d_law_same, D_law_same⟩ := dfx (st := s__law_same) (ps := ["_law_one_here", "_law_other", "_law_views"]) X G c 9 9 (fun _ _ _ _ _ _ us hl => match us, hl with | [_, _, _], _ => rfl) rfl rfl
  obtain ⟨d_law_sets_right, D_law_sets_right⟩ := dfx (st := s__law_sets_right) (ps := ["_law_one_here", "_law_other", "_law_third", "_law_views"]) X G c 10 10 (fun _ _ _ _ _ _ us hl => match us, hl with | [_, _, _, _], _ => rfl) rfl rfl
  obtain ⟨d_law_long, D_law_long⟩ := dfx (st := s__law_long) (ps := ["_law_deck_here", "_law_views"]) X G c 11 11 (fun _ _ _ _ _ _ us hl => match us, hl with | [_, _], _ => rfl) rfl rfl
  obtain ⟨dlaw, Dlaw⟩ := dfx (st := s_law) (ps := ["_law_script"]) X G c 12 12 (fun _ _ _ _ _ _ us hl => match us, hl with | [_], _ => rfl) rfl rfl
  obtain ⟨dAI, FAI, BAI⟩ := inx (st := s_binit) (ps := ["self", "most"]) c 13 (fun _ _ _ _ _ _ us hl => match us, hl with | [_, _], _ => rfl) rfl
  obtain ⟨dIBoth, FIBoth, BIBoth⟩ := inx (st := s_jinit) (ps := ["self", "one", "other"]) c 14 (fun _ _ _ _ _ _ us hl => match us, hl with | [_, _, _], _ => rfl) rfl
  obtain ⟨dIEither, FIEither, BIEither⟩ := inx (st := s_jinit) (ps := ["self", "one", "other"]) c 15 (fun _ _ _ _ _ _ us hl => match us, hl with | [_, _, _], _ => rfl) rfl
  obtain ⟨dIWithout, FIWithout, BIWithout⟩ := inx (st := s_jinit) (ps := ["self", "one", "other"]) c 16 (fun _ _ _ _ _ _ us hl => match us, hl with | [_, _, _], _ => rfl) rfl
  obtain ⟨dnRule, MnRule⟩ := mdx (st := s_rnames) (ps := ["self", "view"]) c 17 13 (fun _ _ _ _ _ _ us hl => match us, hl with | [_, _], _ => rfl) rfl rfl
  obtain ⟨dnAtOnce, MnAtOnce⟩ := mdx (st := s_anames) (ps := ["self", "view"]) c 18 14 (fun _ _ _ _ _ _ us hl => match us, hl with | [_, _], _ => rfl) rfl rfl
  obtain ⟨dnCounting, MnCounting⟩ := mdx (st := s_cnames) (ps := ["self", "view"]) c 19 15 (fun _ _ _ _ _ _ us hl => match us, hl with | [_, _], _ => rfl) rfl rfl
  obtain ⟨dnAbove, MnAbove⟩ := mdx (st := s_bnames) (ps := ["self", "view"]) c 20 16 (fun _ _ _ _ _ _ us hl => match us, hl with | [_, _], _ => rfl) rfl rfl
  obtain ⟨dnPlaces, MnPlaces⟩ := mdx (st := s_pnames) (ps := ["self", "view"]) c 21 17 (fun _ _ _ _ _ _ us hl => match us, hl with | [_, _], _ => rfl) rfl rfl
  obtain ⟨dnBoth, MnBoth⟩ := mdx (st := s_bonames) (ps := ["self", "view"]) c 22 18 (fun _ _ _ _ _ _ us hl => match us, hl with | [_, _], _ => rfl) rfl rfl
  obtain ⟨dnEither, MnEither⟩ := mdx (st := s_eonames) (ps := ["self", "view"]) c 23 19 (fun _ _ _ _ _ _ us hl => match us, hl with | [_, _], _ => rfl) rfl rfl
  obtain ⟨dnWithout, MnWithout⟩ := mdx (st := s_wonames) (ps := ["self", "view"]) c 24 20 (fun _ _ _ _ _ _ us hl => match us, hl with | [_, _], _ => rfl) rfl rfl
  obtain ⟨dcRule, McRule⟩ := mdx (st := s_rcall) (ps := ["self", "view"]) c 25 21 (fun _ _ _ _ _ _ us hl => match us, hl with | [_, _], _ => rfl) rfl rfl
  obtain ⟨dcAtOnce, McAtOnce⟩ := mdx (st := s_rcall) (ps := ["self", "view"]) c 26 22 (fun _ _ _ _ _ _ us hl => match us, hl with | [_, _], _ => rfl) rfl rfl
  obtain ⟨dcCounting, McCounting⟩ := mdx (st := s_rcall) (ps := ["self", "view"]) c 27 23 (fun _ _ _ _ _ _ us hl => match us, hl with | [_, _], _ => rfl) rfl rfl
  obtain ⟨dcAbove, McAbove⟩ := mdx (st := s_rcall) (ps := ["self", "view"]) c 28 24 (fun _ _ _ _ _ _ us hl => match us, hl with | [_, _], _ => rfl) rfl rfl
  obtain ⟨dcPlaces, McPlaces⟩ := mdx (st := s_rcall) (ps := ["self", "view"]) c 29 25 (fun _ _ _ _ _ _ us hl => match us, hl with | [_, _], _ => rfl) rfl rfl
  obtain ⟨dcBoth, McBoth⟩ := mdx (st := s_rcall) (ps := ["self", "view"]) c 30 26 (fun _ _ _ _ _ _ us hl => match us, hl with | [_, _], _ => rfl) rfl rfl
  obtain ⟨dcEither, McEither⟩ := mdx (st := s_rcall) (ps := ["self", "view"]) c 31 27 (fun _ _ _ _ _ _ us hl => match us, hl with | [_, _], _ => rfl) rfl rfl
  obtain ⟨dcWithout, McWithout⟩ := mdx (st := s_rcall) (ps := ["self", "view"]) c 32 28 (fun _ _ _ _ _ _ us hl => match us, hl with | [_, _], _ => rfl) rfl rfl
  obtain ⟨daRule, MaRule⟩ := mdx (st := s_oand) (ps := ["self", "other"]) c 33 29 (fun _ _ _ _ _ _ us hl => match us, hl with | [_, _], _ => rfl) rfl rfl
  obtain ⟨daAtOnce, MaAtOnce⟩ := mdx (st := s_oand) (ps := ["self", "other"]) c 34 30 (fun _ _ _ _ _ _ us hl => match us, hl with | [_, _], _ => rfl) rfl rfl
  obtain ⟨daCounting, MaCounting⟩ := mdx (st := s_oand) (ps := ["self", "other"]) c 35 31 (fun _ _ _ _ _ _ us hl => match us, hl with | [_, _], _ => rfl) rfl rfl
  obtain ⟨daAbove, MaAbove⟩ := mdx (st := s_oand) (ps := ["self", "other"]) c 36 32 (fun _ _ _ _ _ _ us hl => match us, hl with | [_, _], _ => rfl) rfl rfl
  obtain ⟨daPlaces, MaPlaces⟩ := mdx (st := s_oand) (ps := ["self", "other"]) c 37 33 (fun _ _ _ _ _ _ us hl => match us, hl with | [_, _], _ => rfl) rfl rfl
  obtain ⟨daBoth, MaBoth⟩ := mdx (st := s_oand) (ps := ["self", "other"]) c 38 34 (fun _ _ _ _ _ _ us hl => match us, hl with | [_, _], _ => rfl) rfl rfl
  obtain ⟨daEither, MaEither⟩ := mdx (st := s_oand) (ps := ["self", "other"]) c 39 35 (fun _ _ _ _ _ _ us hl => match us, hl with | [_, _], _ => rfl) rfl rfl
  obtain ⟨daWithout, MaWithout⟩ := mdx (st := s_oand) (ps := ["self", "other"]) c 40 36 (fun _ _ _ _ _ _ us hl => match us, hl with | [_, _], _ => rfl) rfl rfl
  obtain ⟨doRule, MoRule⟩ := mdx (st := s_oor) (ps := ["self", "other"]) c 41 37 (fun _ _ _ _ _ _ us hl => match us, hl with | [_, _], _ => rfl) rfl rfl
  obtain ⟨doAtOnce, MoAtOnce⟩ := mdx (st := s_oor) (ps := ["self", "other"]) c 42 38 (fun _ _ _ _ _ _ us hl => match us, hl with | [_, _], _ => rfl) rfl rfl
  obtain ⟨doCounting, MoCounting⟩ := mdx (st := s_oor) (ps := ["self", "other"]) c 43 39 (fun _ _ _ _ _ _ us hl => match us, hl with | [_, _], _ => rfl) rfl rfl
  obtain ⟨doAbove, MoAbove⟩ := mdx (st := s_oor) (ps := ["self", "other"]) c 44 40 (fun _ _ _ _ _ _ us hl => match us, hl with | [_, _], _ => rfl) rfl rfl
  obtain ⟨doPlaces, MoPlaces⟩ := mdx (st := s_oor) (ps := ["self", "other"]) c 45 41 (fun _ _ _ _ _ _ us hl => match us, hl with | [_, _], _ => rfl) rfl rfl
  obtain ⟨doBoth, MoBoth⟩ := mdx (st := s_oor) (ps := ["self", "other"]) c 46 42 (fun _ _ _ _ _ _ us hl => match us, hl with | [_, _], _ => rfl) rfl rfl
  obtain ⟨doEither, MoEither⟩ := mdx (st := s_oor) (ps := ["self", "other"]) c 47 43 (fun _ _ _ _ _ _ us hl => match us, hl with | [_, _], _ => rfl) rfl rfl
  obtain ⟨doWithout, MoWithout⟩ := mdx (st := s_oor) (ps := ["self", "other"]) c 48 44 (fun _ _ _ _ _ _ us hl => match us, hl with | [_, _], _ => rfl) rfl rfl
  obtain ⟨dsRule, MsRule⟩ := mdx (st := s_osub) (ps := ["self", "other"]) c 49 45 (fun _ _ _ _ _ _ us hl => match us, hl with | [_, _], _ => rfl) rfl rfl
  obtain ⟨dsAtOnce, MsAtOnce⟩ := mdx (st := s_osub) (ps := ["self", "other"]) c 50 46 (fun _ _ _ _ _ _ us hl => match us, hl with | [_, _], _ => rfl) rfl rfl
  obtain ⟨dsCounting, MsCounting⟩ := mdx (st := s_osub) (ps := ["self", "other"]) c 51 47 (fun _ _ _ _ _ _ us hl => match us, hl with | [_, _], _ => rfl) rfl rfl
  obtain ⟨dsAbove, MsAbove⟩ := mdx (st := s_osub) (ps := ["self", "other"]) c 52 48 (fun _ _ _ _ _ _ us hl => match us, hl with | [_, _], _ => rfl) rfl rfl
  obtain ⟨dsPlaces, MsPlaces⟩ := mdx (st := s_osub) (ps := ["self", "other"]) c 53 49 (fun _ _ _ _ _ _ us hl => match us, hl with | [_, _], _ => rfl) rfl rfl
  obtain ⟨dsBoth, MsBoth⟩ := mdx (st := s_osub) (ps := ["self", "other"]) c 54 50 (fun _ _ _ _ _ _ us hl => match us, hl with | [_, _], _ => rfl) rfl rfl
  obtain ⟨dsEither, MsEither⟩ := mdx (st := s_osub) (ps := ["self", "other"]) c 55 51 (fun _ _ _ _ _ _ us hl => match us, hl with | [_, _], _ => rfl) rfl rfl
  obtain ⟨dsWithout, MsWithout⟩ := mdx (st := s_osub) (ps := ["self", "other"]) c 56 52 (fun _ _ _ _ _ _ us hl => match us, hl with | [_, _], _ => rfl) rfl rfl
  have TB : Bi mg := ⟨(He.free_ok X G (c.fact 53 rfl)), (He.free_ok X G (c.fact 54 rfl)), (He.free_ok X G (c.fact 55 rfl)), (He.free_ok X G (c.fact 56 rfl))⟩
  have e := hfa.symm.trans Dlaw.m
  cases e
  refine ⟨dlaw, fun s v => ?_, fun base _ _ => ?_⟩
  · obtain ⟨oc, od, kV, doc, pm, an, cdv, ct, osl, rfl, _⟩ := Dlaw.F.ex
    exact .of_eq rfl
  have m0 := cX.more
  obtain ⟨n0, m0⟩ := He.ba m0
  obtain ⟨m1, n0⟩ := He.ba n0
  obtain ⟨m2, m3⟩ := He.ba n0
  obtain ⟨m0, hexJ⟩ := He.ba m0
  obtain ⟨iRule, m0⟩ := He.ba m0
  obtain ⟨iAtOnce, m0⟩ := He.ba m0
  obtain ⟨iCounting, m0⟩ := He.ba m0
  obtain ⟨iAbove, m0⟩ := He.ba m0
  obtain ⟨iPlaces, m0⟩ := He.ba m0
  obtain ⟨iBoth, m0⟩ := He.ba m0
  obtain ⟨iEither, m0⟩ := He.ba m0
  have iWithout := m0
  have mk_ : ∀ x : Str, (PySem.W.makesIn K (He.ga K x) && (He.eqO (PySem.W.findIn K (.ref (He.ga K x)) "__init__") (some (some (.builtin "object.__init__"))) && PySem.W.keepIn K (.ref (He.ga K x)))) = true → Mk0 K (He.ga K x) := fun x hx => by
    obtain ⟨h1, h2⟩ := He.ba hx
    obtain ⟨h2, h3⟩ := He.ba h2
    exact ⟨h1, He.eqO_ok h2, h3⟩
  have mkR := mk_ "Rule" m1
  have mkO := mk_ "AtOnce" m2
  have mkC := mk_ "Counting" m3
  obtain ⟨dPI, FPI0⟩ := c.def_ 57 rfl
  have FPI : Fun K "__init__" "Places.__init__" s_pinit (He.ma K (He.ga K "Places") "__init__") dPI := fun_ofD FPI0
  have clP : Cls K (He.ga K "Places") := (He.cls_ok (c.fact 70 rfl))
  have clA : Cls K (He.ga K "Above") := (He.cls_ok (c.fact 71 rfl))
  have naP : NoAttr K (He.ga K "Places") "_places" := He.noat_ok (c.fact 62 rfl)
  have naA : NoAttr K (He.ga K "Above") "_most" := He.noat_ok (c.fact 63 rfl)
  have MP := He.mkr_ok (c.fact (f := .mkr "Places") 57 rfl)
  have MA := He.mkr_ok (c.fact (f := .mkr "Above") 58 rfl)
  have U := ok_un (P := P) (w := w) (base := base) D_unreached.F (He.free_ok X G (c.fact 72 rfl))
  have GP := ok_pi (P := P) (w := w) (base := base) (mg := mg) FPI clP naP
  have GA := ok_bi (P := P) (w := w) (base := base) (mg := mg) FAI clA naA
  have Z : Rls P w K mg base (fun k => cOf2 K (.b k)) := ⟨fun k => match k with
    | .never => (He.cls_ok (c.fact 73 rfl))
    | .all => (He.cls_ok (c.fact 74 rfl))
    | .counting => (He.cls_ok (c.fact 75 rfl))
    | .above => (He.cls_ok (c.fact 71 rfl))
    | .places => (He.cls_ok (c.fact 70 rfl))
    , fun k => match k with
    | .never => ⟨_, _, MnRule.m, ok_rn (cO := fun k => cOf2 K (.b k)) MnRule.F, MnRule.b⟩
    | .all => ⟨_, _, MnAtOnce.m, ok_an (cO := fun k => cOf2 K (.b k)) MnAtOnce.F ⟨D_unreached.F, D_unreached.b, D_unreached.m⟩ U, MnAtOnce.b⟩
    | .counting => ⟨_, _, MnCounting.m, ok_cnN (cO := fun k => cOf2 K (.b k)) (ok_cn MnCounting.F (He.free_ok X G (c.fact 72 rfl)) (He.free_ok X G (c.fact 76 rfl)) (He.free_ok X G (c.fact 53 rfl))), MnCounting.b⟩
    | .above => ⟨_, _, MnAbove.m, ok_bn (cO := fun k => cOf2 K (.b k)) MnAbove.F (He.free_ok X G (c.fact 53 rfl)) clA naA ⟨D_unreached.F, D_unreached.b, D_unreached.m⟩ U, MnAbove.b⟩
    | .places => ⟨_, _, MnPlaces.m, ok_pn (cO := fun k => cOf2 K (.b k)) MnPlaces.F clP naP ⟨D_unreached.F, D_unreached.b, D_unreached.m⟩ U, MnPlaces.b⟩⟩
  have J : JoinD K mg (cOf2 K) := {
    cl := fun k => match k with
    | .b .never => (He.cls_ok (c.fact 73 rfl))
    | .b .all => (He.cls_ok (c.fact 74 rfl))
    | .b .counting => (He.cls_ok (c.fact 75 rfl))
    | .b .above => (He.cls_ok (c.fact 71 rfl))
    | .b .places => (He.cls_ok (c.fact 70 rfl))
    | .both => (He.cls_ok (c.fact 77 rfl))
    | .either => (He.cls_ok (c.fact 78 rfl))
    | .without => (He.cls_ok (c.fact 79 rfl))
    b := ⟨_, _, MnBoth.m, MnBoth.F, MnBoth.b⟩
    e := ⟨_, _, MnEither.m, MnEither.F, MnEither.b⟩
    w := ⟨_, _, MnWithout.m, MnWithout.F, MnWithout.b⟩
    n1 := ⟨(He.noat_ok (c.fact (f := .noat "Both" "_one") 64 rfl) : NoAttr K (He.ga K "Both") "_one"), (He.noat_ok (c.fact (f := .noat "Both" "_other") 65 rfl) : NoAttr K (He.ga K "Both") "_other")⟩
    n2 := ⟨(He.noat_ok (c.fact (f := .noat "Either" "_one") 66 rfl) : NoAttr K (He.ga K "Either") "_one"), (He.noat_ok (c.fact (f := .noat "Either" "_other") 67 rfl) : NoAttr K (He.ga K "Either") "_other")⟩
    n3 := ⟨(He.noat_ok (c.fact (f := .noat "Without" "_one") 68 rfl) : NoAttr K (He.ga K "Without") "_one"), (He.noat_ok (c.fact (f := .noat "Without" "_other") 69 rfl) : NoAttr K (He.ga K "Without") "_other")⟩ }
  have ZA := rls_all (P := P) (w := w) (base := base) J (He.free_ok X G (c.fact 72 rfl)) (He.free_ok X G (c.fact 76 rfl)) (He.free_ok X G (c.fact 80 rfl)) Z
  have MJBoth : MkJ P w K mg base (He.ga K "Both") "Both" := ⟨(He.glo_ok X G (c.fact 81 rfl)), ⟨_, _, He.mkr_ok (c.fact (f := .mkr "Both") 59 rfl), ok_ji (P := P) (w := w) (base := base) FIBoth (He.cls_ok (c.fact 77 rfl)) (He.noat_ok (c.fact (f := .noat "Both" "_one") 64 rfl) : NoAttr K (He.ga K "Both") "_one") (He.noat_ok (c.fact (f := .noat "Both" "_other") 65 rfl) : NoAttr K (He.ga K "Both") "_other"), BIBoth⟩⟩
  have MJEither : MkJ P w K mg base (He.ga K "Either") "Either" := ⟨(He.glo_ok X G (c.fact 82 rfl)), ⟨_, _, He.mkr_ok (c.fact (f := .mkr "Either") 60 rfl), ok_ji (P := P) (w := w) (base := base) FIEither (He.cls_ok (c.fact 78 rfl)) (He.noat_ok (c.fact (f := .noat "Either" "_one") 66 rfl) : NoAttr K (He.ga K "Either") "_one") (He.noat_ok (c.fact (f := .noat "Either" "_other") 67 rfl) : NoAttr K (He.ga K "Either") "_other"), BIEither⟩⟩
  have MJWithout : MkJ P w K mg base (He.ga K "Without") "Without" := ⟨(He.glo_ok X G (c.fact 83 rfl)), ⟨_, _, He.mkr_ok (c.fact (f := .mkr "Without") 61 rfl), ok_ji (P := P) (w := w) (base := base) FIWithout (He.cls_ok (c.fact 79 rfl)) (He.noat_ok (c.fact (f := .noat "Without" "_one") 68 rfl) : NoAttr K (He.ga K "Without") "_one") (He.noat_ok (c.fact (f := .noat "Without" "_other") 69 rfl) : NoAttr K (He.ga K "Without") "_other"), BIWithout⟩⟩
  have RO : ∀ {f : Addr} {fd : FuncData} {sp : Sp}, FnOk P w K mg base CX0 3 f fd ["self", "other"] sp → Binds K fd ["self", "other"] [] → FnR P w K mg base CX0 3 f sp := fun {f fd sp} F b A outer s H us vs Q E hr e r h => (F.raw b .nil) A outer s H us vs Q E hr e r (by show sp (vs ++ []) H Q E; rw [List.append_nil]; exact h)
  have O : OpsJ P w K mg base (cOf2 K) := ops_of hexJ (fun k => match k with
    | .b .never => ⟨_, MaRule.m, RO (ok_oand (cJ := cOf2 K) MaRule.F MJBoth) MaRule.b⟩
    | .b .all => ⟨_, MaAtOnce.m, RO (ok_oand (cJ := cOf2 K) MaAtOnce.F MJBoth) MaAtOnce.b⟩
    | .b .counting => ⟨_, MaCounting.m, RO (ok_oand (cJ := cOf2 K) MaCounting.F MJBoth) MaCounting.b⟩
    | .b .above => ⟨_, MaAbove.m, RO (ok_oand (cJ := cOf2 K) MaAbove.F MJBoth) MaAbove.b⟩
    | .b .places => ⟨_, MaPlaces.m, RO (ok_oand (cJ := cOf2 K) MaPlaces.F MJBoth) MaPlaces.b⟩
    | .both => ⟨_, MaBoth.m, RO (ok_oand (cJ := cOf2 K) MaBoth.F MJBoth) MaBoth.b⟩
    | .either => ⟨_, MaEither.m, RO (ok_oand (cJ := cOf2 K) MaEither.F MJBoth) MaEither.b⟩
    | .without => ⟨_, MaWithout.m, RO (ok_oand (cJ := cOf2 K) MaWithout.F MJBoth) MaWithout.b⟩) (fun k => match k with
    | .b .never => ⟨_, MoRule.m, RO (ok_oor (cJ := cOf2 K) MoRule.F MJEither) MoRule.b⟩
    | .b .all => ⟨_, MoAtOnce.m, RO (ok_oor (cJ := cOf2 K) MoAtOnce.F MJEither) MoAtOnce.b⟩
    | .b .counting => ⟨_, MoCounting.m, RO (ok_oor (cJ := cOf2 K) MoCounting.F MJEither) MoCounting.b⟩
    | .b .above => ⟨_, MoAbove.m, RO (ok_oor (cJ := cOf2 K) MoAbove.F MJEither) MoAbove.b⟩
    | .b .places => ⟨_, MoPlaces.m, RO (ok_oor (cJ := cOf2 K) MoPlaces.F MJEither) MoPlaces.b⟩
    | .both => ⟨_, MoBoth.m, RO (ok_oor (cJ := cOf2 K) MoBoth.F MJEither) MoBoth.b⟩
    | .either => ⟨_, MoEither.m, RO (ok_oor (cJ := cOf2 K) MoEither.F MJEither) MoEither.b⟩
    | .without => ⟨_, MoWithout.m, RO (ok_oor (cJ := cOf2 K) MoWithout.F MJEither) MoWithout.b⟩) (fun k => match k with
    | .b .never => ⟨_, MsRule.m, RO (ok_osub (cJ := cOf2 K) MsRule.F MJWithout) MsRule.b⟩
    | .b .all => ⟨_, MsAtOnce.m, RO (ok_osub (cJ := cOf2 K) MsAtOnce.F MJWithout) MsAtOnce.b⟩
    | .b .counting => ⟨_, MsCounting.m, RO (ok_osub (cJ := cOf2 K) MsCounting.F MJWithout) MsCounting.b⟩
    | .b .above => ⟨_, MsAbove.m, RO (ok_osub (cJ := cOf2 K) MsAbove.F MJWithout) MsAbove.b⟩
    | .b .places => ⟨_, MsPlaces.m, RO (ok_osub (cJ := cOf2 K) MsPlaces.F MJWithout) MsPlaces.b⟩
    | .both => ⟨_, MsBoth.m, RO (ok_osub (cJ := cOf2 K) MsBoth.F MJWithout) MsBoth.b⟩
    | .either => ⟨_, MsEither.m, RO (ok_osub (cJ := cOf2 K) MsEither.F MJWithout) MsEither.b⟩
    | .without => ⟨_, MsWithout.m, RO (ok_osub (cJ := cOf2 K) MsWithout.F MJWithout) MsWithout.b⟩)
  have G1 := ok_deck (k := 0) (P := P) (w := w) (base := base) D_law_deck.F TB
  have G2 := ok_draw (k := 0) (P := P) (w := w) (base := base) D_law_draw.F TB (He.free_ok X G (c.fact 84 rfl))
  have G3 := ok_one D_law_one.F TB G2 D_law_draw.F.kp D_law_draw.b D_law_draw.m
  have G4 := ok_view D_law_view.F TB (He.free_ok X G (c.fact 72 rfl)) (He.free_ok X G (c.fact 76 rfl)) (He.free_ok X G (c.fact 80 rfl)) ⟨D_law_draw.F, D_law_draw.b, D_law_draw.m⟩ G2 ⟨D_law_one.F, D_law_one.b, D_law_one.m⟩ G3
  have G5 := ok_basic (cO := fun k => cOf2 K (.b k)) D_law_basic.F TB (He.free_ok X G (c.fact 72 rfl)) ⟨D_law_draw.F, D_law_draw.b, D_law_draw.m⟩ G2 ⟨D_law_one.F, D_law_one.b, D_law_one.m⟩ G3 mkR (He.glo_ok X G (c.fact 85 rfl)) mkO (He.glo_ok X G (c.fact 86 rfl)) mkC (He.glo_ok X G (c.fact 87 rfl)) MP (He.glo_ok X G (c.fact 88 rfl)) GP MA (He.glo_ok X G (c.fact 89 rfl)) GA BAI
  have G6 := ok_co (P := P) (w := w) (base := base) D_law_counted.F (He.free_ok X G (c.fact 53 rfl)) (He.free_ok X G (c.fact 76 rfl))
  have G7 := ok_na D_law_named.F (He.free_ok X G (c.fact 53 rfl)) ⟨D_law_counted.F, D_law_counted.b, D_law_counted.m⟩ G6
  have G8 := ok_naAll ⟨D_law_named.F, D_law_named.b, D_law_named.m⟩ (He.free_ok X G (c.fact 76 rfl)) (He.free_ok X G (c.fact 80 rfl)) G7
  have G9 := ok_ruAll O ⟨D_law_rule.F, D_law_rule.b, D_law_rule.m⟩ ⟨D_law_draw.F, D_law_draw.b, D_law_draw.m⟩ G2 ⟨D_law_basic.F, D_law_basic.b, D_law_basic.m⟩ G5
  have RC : ∀ (d : Nat) {f : Addr} {fd : FuncData}, Fun K "__call__" "Rule.__call__" s_rcall f fd → Binds K fd ["self", "view"] [] → FnR P w K mg base CX0 (3 + d) f (spClT (cOf2 K) d) := fun d f fd F b A outer s H us vs Q E hr e r h => ((ok_rcT F (ZA d)).raw b .nil) A outer s H us vs Q E (hr.mono (by omega)) e r (by show spClT (cOf2 K) d (vs ++ []) H Q E; rw [List.append_nil]; exact h)
  have CJ : CallJ P w K mg base (cOf2 K) (fun k => He.ma K (cOf2 K k) "__call__") := ⟨fun k => match k with
    | .b .never => ⟨McRule.m.at_, McRule.m.fn, iRule⟩
    | .b .all => ⟨McAtOnce.m.at_, McAtOnce.m.fn, iAtOnce⟩
    | .b .counting => ⟨McCounting.m.at_, McCounting.m.fn, iCounting⟩
    | .b .above => ⟨McAbove.m.at_, McAbove.m.fn, iAbove⟩
    | .b .places => ⟨McPlaces.m.at_, McPlaces.m.fn, iPlaces⟩
    | .both => ⟨McBoth.m.at_, McBoth.m.fn, iBoth⟩
    | .either => ⟨McEither.m.at_, McEither.m.fn, iEither⟩
    | .without => ⟨McWithout.m.at_, McWithout.m.fn, iWithout⟩
    , fun d k => match k with
    | .b .never => RC d McRule.F McRule.b
    | .b .all => RC d McAtOnce.F McAtOnce.b
    | .b .counting => RC d McCounting.F McCounting.b
    | .b .above => RC d McAbove.F McAbove.b
    | .b .places => RC d McPlaces.F McPlaces.b
    | .both => RC d McBoth.F McBoth.b
    | .either => RC d McEither.F McEither.b
    | .without => RC d McWithout.F McWithout.b⟩
  have GA4 := ok_sa (d := 4) D_law_same.F (He.free_ok X G (c.fact 90 rfl)) (He.free_ok X G (c.fact 91 rfl)) CJ
  have GSR := ok_sr D_law_sets_right.F (He.free_ok X G (c.fact 91 rfl)) O mkR (He.glo_ok X G (c.fact 85 rfl)) ⟨D_law_same.F, D_law_same.b, D_law_same.m⟩ GA4
  have GLG := ok_lg D_law_long.F TB (He.free_ok X G (c.fact 72 rfl)) (He.free_ok X G (c.fact 90 rfl)) (He.free_ok X G (c.fact 91 rfl)) O CJ ⟨D_law_draw.F, D_law_draw.b, D_law_draw.m⟩ G2 ⟨D_law_basic.F, D_law_basic.b, D_law_basic.m⟩ G5 ⟨D_law_named.F, D_law_named.b, D_law_named.m⟩ (G8 20)
  exact ok_law Dlaw.F TB (He.free_ok X G (c.fact 72 rfl)) (He.free_ok X G (c.fact 90 rfl)) (He.free_ok X G (c.fact 91 rfl)) CJ (ZA 4) ⟨D_law_deck.F, D_law_deck.b, D_law_deck.m⟩ G1 ⟨D_law_view.F, D_law_view.b, D_law_view.m⟩ G4 ⟨D_law_rule.F, D_law_rule.b, D_law_rule.m⟩ (G9 4) (G9 2) (G9 1) ⟨D_law_named.F, D_law_named.b, D_law_named.m⟩ (G8 4) ⟨D_law_sets_right.F, D_law_sets_right.b, D_law_sets_right.m⟩ GSR ⟨D_law_long.F, D_law_long.b, D_law_long.m⟩ GLG
end G

set_option Elab.async false
set_option linter.all false
set_option maxRecDepth 100000
set_option maxHeartbeats 0
namespace G
open PySem PySem.Spec PyProof.Rows L2
abbrev RR : PySem.W.OpenRow := PySem.W.OpenLaw.row PySem.Challenge.rw_maybegone_k48_rules_by_operators
abbrev hk : PySem.W.Hook := hookS 5 fa fn ts ex
def ob (s : PySem.W.SharedT) : AlS := obsS 5 fa fn ts ex (HandSHeadRun.getT s)
theorem ob_eq (s : PySem.W.SharedT) : ob s = hk.obs s.abs := obsS_eq (HandSHeadRun.getT_eq s)
def loose : List PySem.Str := (["_unreached", "Rule", "Joined", "Both", "Either", "Without", "AtOnce", "Counting", "Places", "Above", "_law_deck", "_law_draw", "_law_one", "_law_view", "_law_basic", "_law_rule", "_law_counted", "_law_named", "_law_same", "_law_sets_right", "_law_long"] : List PySem.Str)
theorem run0 (w : World) : HandSHeadRun.RunEq RR (PySem.W.view RR.prog [23]) hk ob 30000 loose (w.withFollow "special-get-raises" false) := by
  intro os
  kernel_rfl
theorem run1 (w : World) : HandSHeadRun.RunEq RR (PySem.W.view RR.prog [23]) hk ob 30000 loose (w.withFollow "special-get-raises" true) := by
  intro os
  kernel_rfl
theorem run (w : World) : HandSHeadRun.RunEq RR (PySem.W.view RR.prog [23]) hk ob 30000 loose w :=
  PySem.W.byRow2 "special-get-raises" (P := fun w => HandSHeadRun.RunEq RR (PySem.W.view RR.prog [23]) hk ob 30000 loose w) run0 run1 w
end G
open PySem PySem.W PySem.Calls PyProof.Rows
set_option maxRecDepth 100000 in
set_option maxHeartbeats 0 in
theorem PySem.Challenge.cw_maybegone_k48_rules_by_operators_holds : PySem.Challenge.rw_maybegone_k48_rules_by_operators.Holds := by
  w_on; o_law
  refine HandSHeadRun.head_any (r := OpenLaw.row PySem.Challenge.rw_maybegone_k48_rules_by_operators) (q := view (OpenLaw.row PySem.Challenge.rw_maybegone_k48_rules_by_operators).prog [23]) (H := _root_.G.hk) (ob := _root_.G.ob) (M := 30000) (loose := _root_.G.loose) (d := HandSHeadRun.topDef (OpenLaw.row PySem.Challenge.rw_maybegone_k48_rules_by_operators).prog 23) (kwd := []) _root_.G.ob_eq
    (by kernel_rfl) (fun s => by kernel_rfl) _root_.G.run (by kernel_rfl) (by kernel_rfl) (by kernel_rfl) (by rfl) (by first | assumption | decide +kernel) (by decide +kernel) ⟨rfl, rfl, rfl, rfl, rfl, by decide +kernel⟩ ?hw ?hc
  case hw => w_witness2
  case hc =>
    refine _root_.G.walk_ofGE (l := PySem.Challenge.rw_maybegone_k48_rules_by_operators) (n := 63) (k := 25) (x := "_law_script") rfl (by decide) (by kernel_rfl) ⟨rfl, by decide, by decide⟩ ?F
    intro w mg fa h Y Gn hmg0
    obtain ⟨K, KX, c⟩ := Y
    have hmg : mg ("law" : PySem.Str) = some (.ref fa) := by
      have e : (HandSHeadRun.topDef (OpenLaw.row PySem.Challenge.rw_maybegone_k48_rules_by_operators).prog 23).name = ("law" : PySem.Str) := by kernel_rfl
      rw [← e]
      exact hmg0
    obtain ⟨fd, hb, hF⟩ := _root_.G.facts (P := (PySem.Challenge.rw_maybegone_k48_rules_by_operators).prog) (w := w) KX Gn hmg c
    exact ⟨K, fd, KX, hb, hF⟩
