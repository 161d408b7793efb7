import PyProof.Rows.All
import Wide.All
import OpenK.AllK
import Wide.FinOn
import HandS.ForMost
import HandS.Style
import HandS.IsInst
import HandS.More
import HandS.Evl
import HandS.Zip
import HandS.Walk
import HandS.SetFor
import HandS.Defaults
import HandS.ForExc
import HandS.CallSlots
import HandS.Comp
import KE.GoesComp2
import KE.KExcSuper
import HandS.ExcInit
import HandS.Nested
import HandS.ExcField
import HandS.ExcIs
import HandS.TryMany
import HandS.TryOnly
import HandS.ExcOwn
import HandS.WordsExc
import KE.KExcIs
import HandS.SlotsOwn
import HandS.OwnIter
import HandS.IterNext
import HandS.ClsMeth
import HandS.Deep
import HandS.IterVal
import HandS.Sort
import KE.KDictCopyH
import PyProof.Rows.SortStr
import HandS.TupAny
import HandS.Iter
import KE.GoesEnum
import KE.KDictKeyed
import KE.KeyNested
import KE.KDictDisplayH
import PyProof.StrBlock2
import HandS.FStr
import PyProof.Rows.RegStrFacts
import HandS.Conv
import HandS.Text
import PySem.Challenge.RW_coretower_k45_usual_rules
import HandS.Star
import HandS.Property
import HandS.Codes
import HandS.TupLe
import KE.RegKSuper
set_option Elab.async false
set_option linter.all false
set_option maxRecDepth 100000
set_option maxHeartbeats 4000000
/-! ### small things over the layer: frames, loops, tests -/
namespace My
open PySem L2
section
variable {P : Program} {w : World} {K : PySem.W.Frag} {mg : Str → Option Value} {base : Heap}
/-- a def of the text, where it stands -/
structure Df (K : PySem.W.Frag) (mg : Str → Option Value) (x : Str) (st : Stmt) (ps : List Str) (f : Addr) (fd : FuncData) : Prop where
  F : Fun K x x st f fd
  g : mg x = some (.ref f)
  b : Binds K fd ps []
theorem cxK {CX : CXT} {N : List Str} {q : Str} {sc : Scope} {f : Addr} {cdv : Value} {A : Around} {outer : List Env} {s : Shared} {H : Hp} {E : XK} : (cxOf CX P w K mg base N q sc f cdv A outer s H E).K = K := rfl
theorem cxnK {CX : CXT} {N : List Str} {q : Str} {sc : Scope} {f : Addr} {cdv : Value} {A : Around} {outer : List Env} {s : Shared} {H : Hp} {E : XK} : (cxOf CX P w K mg base N q sc f cdv A outer s H E).nox.K = K := rfl
end
/-! ### frames -/
/-- what stood outside of S stands as it did -/
def Kp (S : List Addr) (H H' : Hp) : Prop := ∀ b o, b ∉ S → H b = some o → H' b = some o
theorem Kp.refl (S : List Addr) (H : Hp) : Kp S H H := fun _ _ _ h => h
theorem Kp.trans {S : List Addr} {H H1 H2 : Hp} (a : Kp S H H1) (b : Kp S H1 H2) : Kp S H H2 := fun c o hc h => b c o hc (a c o hc h)
theorem Kp.mono {S T : List Addr} {H H' : Hp} (a : Kp S H H') (h : ∀ x ∈ S, x ∈ T) : Kp T H H' := fun c o hc e => a c o (fun z => hc (h c z)) e
theorem Kp.of0 {T : List Addr} {H H' : Hp} (a : Kp [] H H') : Kp T H H' := a.mono fun x hx => nomatch hx
theorem Kp.new {S : List Addr} {H : Hp} {p : Addr} {o : HO} (h : H p = none) : Kp S H (upd H p o) := fun a u _ e => by
  rw [upd_ne (ne_of_none e h)]
  exact e
/-- a write to something that was not there at the beginning -/
theorem Kp.wr {S : List Addr} {H H' : Hp} {p : Addr} {o : HO} (a : Kp S H H') (h : H p = none) : Kp S H (upd H' p o) := fun b u hb e => by
  rw [upd_ne (ne_of_none e h)]
  exact a b u hb e
theorem Kp.put {S : List Addr} {H H' : Hp} {p : Addr} {o : HO} (a : Kp S H H') (h : p ∈ S) : Kp S H (upd H' p o) := fun b u hb e => by
  rw [upd_ne (fun z => hb (by rw [z]; exact h))]
  exact a b u hb e
theorem Kp.ls {S : List Addr} {K : PySem.W.Frag} {H H' : Hp} {a : Addr} {xs : List V} (k : Kp S H H') (ha : a ∉ S) (h : SqL K H a xs) : SqL K H' a xs := by
  rcases h with (h | ⟨o, h⟩) | h
  · exact .inl (.inl (k _ _ ha h))
  · exact .inl (.inr ⟨o, k _ _ ha h⟩)
  · exact .inr h
theorem Kp.tp {S : List Addr} {K : PySem.W.Frag} {H H' : Hp} {a : Addr} {xs : List V} (k : Kp S H H') (ha : a ∉ S) (h : SqT K H a xs) : SqT K H' a xs := by
  rcases h with (h | ⟨o, h⟩) | h
  · exact .inl (.inl (k _ _ ha h))
  · exact .inl (.inr ⟨o, k _ _ ha h⟩)
  · exact .inr h
theorem Kp.free {S : List Addr} {H H' : Hp} {p : Addr} (k : Kp S H H') (hp : H' p = none) (hs : ∀ a ∈ S, ∃ o, H' a = some o) : H p = none := by
  cases e : H p with
  | none => rfl
  | some o =>
    by_cases h : p ∈ S
    · obtain ⟨u, hu⟩ := hs p h
      rw [hp] at hu; cases hu
    · rw [k p o h e] at hp; cases hp
theorem Kp.free0 {H H' : Hp} {p : Addr} (k : Kp [] H H') (hp : H' p = none) : H p = none := k.free hp fun a h => nomatch h
theorem not1 {a b : Addr} (h : b ≠ a) : b ∉ [a] := fun z => h (List.mem_singleton.mp z)
theorem not0 {b : Addr} : b ∉ ([] : List Addr) := fun z => nomatch z
theorem sq_l {K : PySem.W.Frag} {H : Hp} {a : Addr} {xs : List V} (h : H a = some (.lst xs)) : SqL K H a xs := .inl (.inl h)
theorem sq_t {K : PySem.W.Frag} {H : Hp} {a : Addr} {xs : List V} (h : H a = some (.tup xs)) : SqT K H a xs := .inl (.inl h)
theorem small {n : Nat} (h : n ≤ 100000) : n ≤ sizeLine := Nat.le_trans h (by decide)
theorem smallL {n : Nat} (h : n ≤ 100000) : n < sizeLine := Nat.lt_of_le_of_lt h (by decide)
theorem ne_kind {H : Hp} {a b : Addr} {o u : HO} (h : H a = some o) (h' : H b = some u) (d : o ≠ u) : a ≠ b := ne_of h h' d
/-! ### subscripts -/
theorem atI_of {α : Type} {xs : List α} {i : Int} {v : α} (h0 : 0 ≤ i) (h : xs[i.toNat]? = some v) : atI xs i = some v := by
  have e := atI_nat h
  rwa [Int.toNat_of_nonneg h0] at e
theorem ixN_of {n : Nat} {i : Int} (h0 : 0 ≤ i) (h : i < n) : ixN n i = some i.toNat := by
  unfold ixN
  rw [if_pos h0, if_pos h]
theorem atI_ex {α : Type} {xs : List α} {i : Int} (h0 : 0 ≤ i) (h : i < xs.length) : ∃ v, v ∈ xs ∧ atI xs i = some v := by
  have hl : i.toNat < xs.length := by omega
  exact ⟨xs[i.toNat], List.getElem_mem hl, atI_of h0 (List.getElem?_eq_getElem hl)⟩
/-! ### isinstance -/
section
variable {K : PySem.W.Frag} {H : Hp} {Q : VK}
theorem isi_mk {x : V} {n m : String} {b : Bool} (h : TyOf K H x (.type n)) (k : kitB n m = some b) (q : Q (.bl b) H) : rIsi K [x, .ty m] H Q := ⟨x, _, _, _, b, rfl, .ty m, .base h, kit_ty k, q⟩
theorem isi_int_str {i : Int} (q : Q (.bl false) H) : rIsi K [.int i, .ty "str"] H Q := isi_mk (.int i) (by decide +kernel) q
theorem isi_str_str {i : Str} (q : Q (.bl true) H) : rIsi K [.str i, .ty "str"] H Q := isi_mk (.str i) (by decide +kernel) q
theorem isi_int_int {i : Int} (q : Q (.bl true) H) : rIsi K [.int i, .ty "int"] H Q := isi_mk (.int i) (by decide +kernel) q
theorem isi_int_bool {i : Int} (q : Q (.bl false) H) : rIsi K [.int i, .ty "bool"] H Q := isi_mk (.int i) (by decide +kernel) q
theorem isi_bl_bool {i : Bool} (q : Q (.bl true) H) : rIsi K [.bl i, .ty "bool"] H Q := isi_mk (.bl i) (by decide +kernel) q
end
theorem sc_ii {i j : Int} : scal (.int i) (.int j) = true := rfl
theorem sc_ss {i j : Str} : scal (.str i) (.str j) = true := rfl
theorem sc_bb {i j : Bool} : scal (.bl i) (.bl j) = true := rfl
theorem sc_ni {j : Int} : scal .non (.int j) = true := rfl
theorem sc_in {j : Int} : scal (.int j) .non = true := rfl
theorem sc_is {i : Int} {j : Str} : scal (.int i) (.str j) = true := rfl
theorem sc_si {i : Int} {j : Str} : scal (.str j) (.int i) = true := rfl
theorem sc_nn : scal .non .non = true := rfl
/-! ### loops -/
section
variable {K : PySem.W.Frag} {g : TG} {tb : TS} {D : Ends} {σ : St} {H : Hp}
theorem forL {a : Addr} {xs : List V} {i : Nat} (Pv : Nat → L2.St → Hp → Prop) (hσ : σ[i]? = some (some (.ref a))) (hS : SqL K H a xs) (h0 : Pv 0 σ H) (hl : ∀ j σ H, j ≤ xs.length → Pv j σ H → SqL K H a xs)
    (hs : ∀ j x σ H, xs[j]? = some x → Pv j σ H → g x σ H fun σ2 H2 => tb { D with nx := Pv (j + 1), ct := Pv (j + 1), bk := D.nx } σ2 H2) (hd : ∀ σ H, Pv xs.length σ H → D.nx σ H) : tFor (iList K (tVar i)) g tb D σ H :=
  ⟨_, hσ, a, rfl, ⟨xs, hS⟩, for_list Pv h0 hl hs hd⟩
theorem forT {a : Addr} {xs : List V} {i : Nat} (Pv : Nat → L2.St → Hp → Prop) (hσ : σ[i]? = some (some (.ref a))) (hS : SqT K H a xs) (h0 : Pv 0 σ H) (hl : ∀ j σ H, j ≤ xs.length → Pv j σ H → SqT K H a xs)
    (hs : ∀ j x σ H, xs[j]? = some x → Pv j σ H → g x σ H fun σ2 H2 => tb { D with nx := Pv (j + 1), ct := Pv (j + 1), bk := D.nx } σ2 H2) (hd : ∀ σ H, Pv xs.length σ H → D.nx σ H) : tFor (iTup K (tVar i)) g tb D σ H :=
  ⟨_, hσ, a, rfl, ⟨xs, hS⟩, for_tup Pv h0 hl hs hd⟩
/-- behind the reckoning of the bound: range(m) -/
theorem forR {ta : TA} {Qx : Hp → Int → Prop} (h : ta σ H fun vs H1 => ∃ m : Int, vs = [.int m] ∧ -(2 ^ 62) ≤ m ∧ m < 2 ^ 62 ∧ ∃ Pv : Nat → L2.St → Hp → Prop, Pv 0 σ H1 ∧
    (∀ j σ H, j < m.toNat → Pv j σ H → g (.int (0 + j)) σ H fun σ2 H2 => tb { D with nx := Pv (j + 1), ct := Pv (j + 1), bk := D.nx } σ2 H2) ∧ (∀ σ H, Pv m.toNat σ H → D.nx σ H))
    (mono : ∀ Q Q' : List V → Hp → Prop, (∀ vs H, Q vs H → Q' vs H) → ta σ H Q → ta σ H Q') : tFor (iRng1 ta) g tb D σ H := by
  refine mono _ _ ?_ h
  rintro vs H1 ⟨m, e, h1, h2, Pv, a, b, c⟩
  exact ⟨m, e, h1, h2, for_range Pv a b c⟩
end
/-! ### dicts -/
section
variable {κ : Type} [DecidableEq κ]
theorem keys_putK (kvs : List (κ × V)) (k : κ) (v : V) (h : (kvs.map (·.1)).Nodup) : ((putK kvs k v).map (·.1)).Nodup := by
  cases e : valV kvs k with
  | none => exact nd_putK v h e
  | some y =>
    have ha : (kvs.any fun kv => decide (kv.1 = k)) = true := by
      unfold valV at e
      cases q : kvs.find? fun kv => decide (kv.1 = k) with
      | none => rw [q] at e; cases e
      | some p => exact List.any_eq_true.mpr ⟨p, List.mem_of_find?_eq_some q, by simpa using List.find?_some q⟩
    unfold putK
    rw [if_pos ha, List.map_map]
    have e2 : ((fun kv : κ × V => kv.1) ∘ fun kv : κ × V => if kv.1 = k then (kv.1, v) else kv) = fun kv => kv.1 := by
      funext p
      show (if p.1 = k then (p.1, v) else p).1 = p.1
      split <;> rfl
    rw [e2]
    exact h
theorem mem_putK {kvs : List (κ × V)} {k : κ} {v : V} {p : κ × V} (h : p ∈ putK kvs k v) : p ∈ kvs ∨ p = (k, v) := by
  unfold putK at h
  split at h
  · obtain ⟨q, hq, e⟩ := List.mem_map.mp h
    split at e
    · rename_i hk
      exact .inr (by rw [← e, hk])
    · exact .inl (by rw [← e]; exact hq)
  · rcases List.mem_append.mp h with h | h
    · exact .inl h
    · exact .inr (List.mem_singleton.mp h)
theorem valV_mem {kvs : List (κ × V)} {k : κ} {v : V} (h : (kvs.map (·.1)).Nodup) (hm : (k, v) ∈ kvs) : valV kvs k = some v := by
  induction kvs with
  | nil => nomatch hm
  | cons p r ih =>
    rw [List.map_cons, List.nodup_cons] at h
    by_cases e : p.1 = k
    · rw [valV_pos e]
      rcases List.mem_cons.mp hm with z | z
      · rw [← z]
      · exact absurd (List.mem_map.mpr ⟨_, z, rfl⟩) (by rw [← e]; exact h.1)
    · rw [valV_neg e]
      rcases List.mem_cons.mp hm with z | z
      · exact absurd (by rw [← z]) e
      · exact ih h.2 z
end
end My

set_option Elab.async false
set_option linter.all false
set_option maxRecDepth 100000
set_option maxHeartbeats 4000000
namespace My
open PySem L2
/-! ### data that stands in tracked tuples and lists -/
mutual
inductive Dq (H : Hp) : V → PyData → Prop
  | non : Dq H .non .none
  | bl (b : Bool) : Dq H (.bl b) (.bool b)
  | int (i : Int) : Dq H (.int i) (.int i)
  | str (x : Str) : Dq H (.str x) (.str x)
  | lst {a : Addr} {xs : List V} {ds : List PyData} : H a = some (.lst xs) → DqAll H xs ds → Dq H (.ref a) (.list ds)
  | tup {a : Addr} {xs : List V} {ds : List PyData} : H a = some (.tup xs) → DqAll H xs ds → Dq H (.ref a) (.tuple ds)
inductive DqAll (H : Hp) : List V → List PyData → Prop
  | nil : DqAll H [] []
  | cons {v : V} {vs : List V} {d : PyData} {ds : List PyData} : Dq H v d → DqAll H vs ds → DqAll H (v :: vs) (d :: ds)
end
mutual
theorem Dq.kp {H H' : Hp} (k : Kp [] H H') : ∀ {d : PyData} {v : V}, Dq H v d → Dq H' v d
  | _, _, .non => .non
  | _, _, .bl b => .bl b
  | _, _, .int i => .int i
  | _, _, .str x => .str x
  | _, _, .lst e h => .lst (k _ _ not0 e) (DqAll.kp k h)
  | _, _, .tup e h => .tup (k _ _ not0 e) (DqAll.kp k h)
theorem DqAll.kp {H H' : Hp} (k : Kp [] H H') : ∀ {ds : List PyData} {vs : List V}, DqAll H vs ds → DqAll H' vs ds
  | _, _, .nil => .nil
  | _, _, .cons h t => .cons (Dq.kp k h) (DqAll.kp k t)
end
mutual
theorem Dq.dp {K : PySem.W.Frag} {H : Hp} : ∀ {d : PyData} {v : V}, Dq H v d → Dp K H v d
  | _, _, .non => .non
  | _, _, .bl b => .bl b
  | _, _, .int i => .int i
  | _, _, .str x => .str x
  | _, _, .lst e h => .lst (sq_l e) (DqAll.dp h)
  | _, _, .tup e h => .tup (sq_t e) (DqAll.dp h)
theorem DqAll.dp {K : PySem.W.Frag} {H : Hp} : ∀ {ds : List PyData} {vs : List V}, DqAll H vs ds → DpAll K H vs ds
  | _, _, .nil => .nil
  | _, _, .cons h t => .cons (Dq.dp h) (DqAll.dp t)
end
theorem DqAll.len {H : Hp} : ∀ {ds : List PyData} {vs : List V}, DqAll H vs ds → vs.length = ds.length
  | _, _, .nil => rfl
  | _, _, .cons h t => by rw [List.length_cons, List.length_cons, t.len]
theorem DqAll.get {H : Hp} : ∀ {ds : List PyData} {vs : List V}, DqAll H vs ds → ∀ {i : Nat} {v : V}, vs[i]? = some v → ∃ d, ds[i]? = some d ∧ Dq H v d
  | _, _, .nil, _, _, e => nomatch e
  | _, _, .cons h t, 0, _, e => by cases e; exact ⟨_, rfl, h⟩
  | _, _, .cons h t, i + 1, _, e => t.get (i := i) e
/-- its class -/
def tyD : PyData → String
  | .none => "NoneType"
  | .bool _ => "bool"
  | .int _ => "int"
  | .str _ => "str"
  | .list _ => "list"
  | .tuple _ => "tuple"
  | _ => "object"
theorem Dq.ty {K : PySem.W.Frag} {H : Hp} {v : V} {d : PyData} (h : Dq H v d) : TyOf K H v (.type (tyD d)) := by
  cases h with
  | non => exact .non
  | bl b => exact .bl b
  | int i => exact .int i
  | str x => exact .str x
  | lst e h => exact .lst e
  | tup e h => exact .tup e
def six (d : PyData) : Prop := match d with
  | .none | .bool _ | .int _ | .str _ | .list _ | .tuple _ => True
  | _ => False
theorem Dq.six {H : Hp} {v : V} {d : PyData} (h : Dq H v d) : six d := by
  cases h <;> exact True.intro
def isStrD : PyData → Bool | .str _ => true | _ => false
def isTupD : PyData → Bool | .tuple _ => true | _ => false
def isLstD : PyData → Bool | .list _ => true | _ => false
def isIntD : PyData → Bool | .int _ | .bool _ => true | _ => false
def isBoolD : PyData → Bool | .bool _ => true | _ => false
section
variable {K : PySem.W.Frag} {H : Hp} {Q : VK} {v : V} {d : PyData}
theorem isi_D (h : Dq H v d) {m : String} {b : Bool} (k : kitB (tyD d) m = some b) (q : Q (.bl b) H) : rIsi K [v, .ty m] H Q := isi_mk h.ty k q
theorem isi_Dstr (h : Dq H v d) (q : Q (.bl (isStrD d)) H) : rIsi K [v, .ty "str"] H Q := isi_D h (by cases h <;> simp only [tyD, isStrD, isTupD, isLstD, isIntD, isBoolD] <;> decide +kernel) q
theorem isi_Dtup (h : Dq H v d) (q : Q (.bl (isTupD d)) H) : rIsi K [v, .ty "tuple"] H Q := isi_D h (by cases h <;> simp only [tyD, isStrD, isTupD, isLstD, isIntD, isBoolD] <;> decide +kernel) q
theorem isi_Dlst (h : Dq H v d) (q : Q (.bl (isLstD d)) H) : rIsi K [v, .ty "list"] H Q := isi_D h (by cases h <;> simp only [tyD, isStrD, isTupD, isLstD, isIntD, isBoolD] <;> decide +kernel) q
theorem isi_Dint (h : Dq H v d) (q : Q (.bl (isIntD d)) H) : rIsi K [v, .ty "int"] H Q := isi_D h (by cases h <;> simp only [tyD, isStrD, isTupD, isLstD, isIntD, isBoolD] <;> decide +kernel) q
theorem isi_Dbool (h : Dq H v d) (q : Q (.bl (isBoolD d)) H) : rIsi K [v, .ty "bool"] H Q := isi_D h (by cases h <;> simp only [tyD, isStrD, isTupD, isLstD, isIntD, isBoolD] <;> decide +kernel) q
end
/-! ### xs.remove(text) -/
def eqs (z : Str) (v : Value) : Bool := match v with
  | .str y _ => y == z
  | _ => false
theorem str_beq' (w z : Str) : (w == z) = (w.cps.toList == z.cps.toList) := by
  rw [Bool.eq_iff_iff, beq_iff_eq, beq_iff_eq]
  constructor
  · rintro rfl; rfl
  · intro h
    obtain ⟨a⟩ := w
    obtain ⟨b⟩ := z
    obtain ⟨a⟩ := a
    obtain ⟨b⟩ := b
    have h' : a = b := h
    rw [h']
def rRemS : V → List V → Hp → VK → Prop := fun x xs H Q => ∃ (l : Addr) (zs : List Str) (z : Str) (j : Nat), x = .ref l ∧ xs = [.str z] ∧ H l = some (.lst (zs.map V.str)) ∧ zs[j]? = some z ∧ (∀ m : Nat, m < j → zs[m]? ≠ some z) ∧ Q .non (upd H l (.lst ((zs.eraseIdx j).map V.str)))
theorem vals_str : ∀ {zs : List Str} {us : List Value}, Vals (zs.map V.str) us → ∀ {i : Nat} {u : Value}, us[i]? = some u → ∃ y t, u = .str y t ∧ zs[i]? = some y
  | [], _, r, _, _, e => by cases r; cases e
  | z :: zs, us, r, i, u, e => by
    rw [List.map_cons] at r
    cases r with
    | cons r0 rt =>
      match i, e with
      | 0, e =>
        cases e
        obtain ⟨t, rfl⟩ := r0
        exact ⟨z, t, rfl, rfl⟩
      | i + 1, e => exact vals_str rt (i := i) e
theorem erase_mapS : ∀ (l : List Str) (j : Nat), (l.map V.str).eraseIdx j = (l.eraseIdx j).map V.str
  | [], j => by simp
  | _ :: _, 0 => by simp
  | _ :: r, j + 1 => by simp [erase_mapS r j]
theorem eqs_ok (w z : Str) (tw t : Tok) : MeetsSeq.EqGives (.str w tw) (.str z t) (eqs z (.str w tw)) := by
  have e : eqs z (.str w tw) = (w.cps.toList == z.cps.toList) := (str_beq' w z)
  rw [e]
  exact SeqRoads2.EqGives.str w z tw t
theorem mt_removeS {X : Cx} : MtM X "list.remove" rRemS := by
  intro pins s σ H x xs v us Q I rx rxs h
  obtain ⟨l, zs, z, j, rfl, rfl, hH, hj, hno, q⟩ := h
  cases rx
  obtain ⟨u, rfl, ru⟩ := rxs.one
  obtain ⟨t, rfl⟩ := ru
  obtain ⟨hz, its, n, r, hl, e⟩ := I.lstM hH
  rw [List.length_map] at hl hz
  have hjn : j < zs.length := (List.getElem?_eq_some_iff.mp hj).1
  have hjl : j < its.toArray.size := by rw [List.size_toArray]; omega
  have each : ∀ y, y ∈ its.toArray → MeetsSeq.EqGives y (.str z t) (eqs z y) := fun y hy => by
    obtain ⟨i, hi, e1⟩ := List.mem_iff_getElem.mp (show y ∈ its by simpa using hy)
    obtain ⟨w, tw, rfl, _⟩ := vals_str r (i := i) (by rw [List.getElem?_eq_getElem hi, e1])
    exact eqs_ok w z tw t
  have at_ : ∀ m (hm : m < its.toArray.size), ∃ t', its.toArray[m] = .str (zs[m]'(by rw [List.size_toArray] at hm; omega)) t' := fun m hm => by
    have hm' : m < its.length := by simpa using hm
    obtain ⟨w, tw, ew, ez⟩ := vals_str r (i := m) (List.getElem?_eq_getElem hm')
    have hmz : m < zs.length := by omega
    rw [List.getElem?_eq_getElem hmz] at ez
    exact ⟨tw, by rw [Option.some.inj ez]; simpa using ew⟩
  refine call_meets PySem.F.slot_list_remove ⟨_, e, rfl⟩ PySem.F.entry_list_remove (PySem.F.args_list_remove_2 _ _) (MeetsSeq.list_remove l its.toArray n (.str z t) (eqs z) each j hjl ?_ ?_ (by rw [List.size_toArray]; omega)) ⟨e, ?_⟩
  · obtain ⟨t', et⟩ := at_ j hjl
    rw [List.getElem?_eq_getElem hjn] at hj
    rw [et, Option.some.inj hj]
    exact beq_self_eq_true z
  · intro m hm hmj
    obtain ⟨t', et⟩ := at_ m hm
    rw [et]
    refine beq_eq_false_iff_ne.mpr fun e2 => hno m hmj ?_
    rw [← e2]
    exact List.getElem?_eq_getElem _
  · have rr := r.eraseIdx j
    rw [erase_mapS] at rr
    refine ⟨.non, _, I.lset (its' := its.eraseIdx j) (t' := s.toks) hH e ?_ rr ?_, rfl, q⟩
    · show its.toArray.eraseIdxIfInBounds j = (its.eraseIdx j).toArray
      rw [List.eraseIdxIfInBounds_toArray]
    · have := List.length_eraseIdx_le zs j
      rw [List.length_map]
      omega
/-! ### repr of data, nothing being shown -/
def rReprD (K : PySem.W.Frag) : List V → Hp → VK → Prop := fun xs H Q => ∃ (a : Addr) (d : PyData), xs = [.ref a] ∧ Dp K H (.ref a) d ∧ d.showable = true ∧ d.hasDict = false ∧ d.depth ≤ 60 ∧ d.shown.length ≤ sizeLine ∧ Q (.str d.shown) H
theorem call_reprD {X : Cx} (gd : X.A.guards = some [] ∧ X.A.units + 64 < cLine) : CallR X (.builtin "repr") (rReprD X.K) := by
  intro pins s σ H xs us Q I r h
  obtain ⟨a, d, rfl, hd, hs, hn, hp, hz, q⟩ := h
  obtain ⟨u, rfl, ru⟩ := vals1 r
  obtain ⟨as, rd⟩ := Dp.reads I d (.ref a) u hd ru
  cases (show u = Value.ref a from ru)
  refine repr_of_reads' rd hs (PyData.noDict_hsm hn) gd.1 (by omega) (fun _ _ e => e) (fun h' t tk hk => ⟨.str _, H, I.kept (t' := tk) hk, ⟨_, rfl⟩, q⟩) hz
/-! ### an own class made where what is raised is wished for at the slots -/
def tMakeS (C : Addr) (sp : Sp) (dvs : List V) (E : L2.St → XK) (t : TA) : TE := fun σ H Q => t σ H fun vs H1 => ∀ o d, H1 o = none → H1 d = none → d ≠ o → sp (.ref o :: (vs ++ dvs)) (upd (upd H1 d (.own o)) o (.ins C d [])) (fun v H2 => v = .non ∧ Q (.ref o) H2) (E σ)
section
variable {X : Cx} {CX : CXT} {k : Nat} {f C : Addr} {fd : FuncData} {ps : List Str} {sp : Sp} {dvs : List V} {ds : List Value} {E : L2.St → XK} {x : Str} {p pos : Pos} {e : Expr} {es : List Expr} {t : TA}
theorem pe_makeS (M : Mk X.K C f) (F : FnOk X.prog X.w X.K X.mg X.base CX k f fd ps sp) (hr : Room (k + 1) X.A) (hg : Gl X x) (hm : X.mg x = some (.ref C)) (hb : Binds X.K fd ps ds) (hd : Vals dvs ds) (hx : ∀ σ, PassesAt CX X σ (E σ)) (ha : PA X (e :: es) t)
    (hdb : (x == ("__debug__" : Str)) = false := by decide) (he : starEach (e :: es) X.env = (false, eval e X.env) :: starEach es X.env := by rfl) (hpl : (backTo pos (starEach es X.env)).any (·.1) = false := by rfl) :
    PE X (.Call (.Name x p) (e :: es) [] pos) (tMakeS C sp dvs E t) := by
  refine ⟨fun pins s σ H Q I h => wpAny_Call_Name_kw (ld_glob I hg hm ?_ hdb)⟩
  refine PySem.W.callWith_K (h₀ := X.base) I.ok.mod.kin M.kp (thn (ha.run pos pins s σ H _ I h) fun us s1 ⟨vs, H1, I1, r, q⟩ => ⟨I1.kIn, ?_⟩) he hpl
  have g0 : H1 (s1.heap.objs.size + 1) = none := I1.hok.fresh (Nat.le_succ _)
  have g1 : H1 s1.heap.objs.size = none := I1.hok.fresh (Nat.le_refl _)
  have todo := q _ _ g0 g1 (Nat.ne_of_lt (Nat.lt_succ_self _))
  have J := Inv.made (C := C) I1
  have rr : Vals (V.ref (s1.heap.objs.size + 1) :: (vs ++ dvs)) (Value.ref (s1.heap.objs.size + 1) :: (us ++ ds)) := .cons rfl (r.append hd)
  have many : (Value.ref (s1.heap.objs.size + 1) :: us ++ ds).length = ps.length := (rr.length.symm.trans (F.len _ _ _ _ todo))
  refine wpAny_call (make_map (f := f) I1.kIn M.makes M.init (beq_iff_eq.mp M.fn) (codeAny_mono (F.run _ X.stack _ _ ⟨_, []⟩ _ _ _ (E σ) (hr.make C us []) (J.env0.make C us []) (hb _ (Value.ref (s1.heap.objs.size + 1) :: us) J.kIn many) rr todo) fun
    | .error er, s2, z => hx σ pins _ _ er s2 J z
    | .ok (.ret u), s2, z => ?_
    | .ok .next, _, z => False.elim z
    | .ok .brk, _, z => False.elim z
    | .ok .cont, _, z => False.elim z))
  obtain ⟨v, H3, J3, rv, rfl, z3⟩ := J.after z
  exact ⟨rv, .ref (s1.heap.objs.size + 1), H3, J3, rfl, z3⟩
end
end My

set_option Elab.async false
set_option linter.all false
set_option maxRecDepth 100000
set_option maxHeartbeats 4000000
/-! ### a list comprehension of two clauses -/
namespace My
open PySem L2
/-- the inner clause: it adds to the list at D; Nx behind it -/
def tLcIn (wi : TI) (g : TG) (tt : TT) (te : TE) (vs : List Nat) (D : Addr) (σ : L2.St) (H : Hp) (Nx : Hp → Prop) : Prop := wi σ H fun J H1 => ∃ W : Nat → Nat → Hp → Prop, (∃ m, W 0 m H1) ∧ ∀ i m H, W i m H →
  (J.stop i H ∧ Nx H) ∨ (J.go i H ∧ ∃ N2 : Hp → Prop, (∀ H', N2 H' → ∃ m', m' < m ∧ W (i + 1) m' H') ∧ ∀ x H', J.yld i H x H' → g x (wipe σ vs) H' fun σ2 H2 => wipe σ2 vs = wipe σ vs ∧ tt σ2 H2 fun b H3 =>
    if b = true then te σ2 H3 fun y H4 => ∃ acc, H4 D = some (.lst acc) ∧ acc.length < sizeLine ∧ N2 (upd H4 D (.lst (acc ++ [y]))) else N2 H3)
def tLc2 (wi1 : TI) (g1 : TG) (tt1 : TT) (wi2 : TI) (g2 : TG) (tt2 : TT) (te : TE) (vs vs2 : List Nat) : TE := fun σ H Q => wi1 σ H fun J H1 => ∀ D, H1 D = none → ∃ W : Nat → Nat → Hp → Prop, (∃ m, W 0 m (upd H1 D (.lst []))) ∧ ∀ i m H, W i m H →
  (J.stop i H ∧ Q (.ref D) H) ∨ (J.go i H ∧ ∃ Nx : Hp → Prop, (∀ H', Nx H' → ∃ m', m' < m ∧ W (i + 1) m' H') ∧ ∀ x H', J.yld i H x H' → g1 x (wipe σ vs) H' fun σ2 H2 => wipe σ2 vs = wipe σ vs ∧ tt1 σ2 H2 fun b H3 =>
    if b = true then tLcIn wi2 g2 tt2 te vs2 D σ2 H3 Nx else Nx H3)
section
variable {X : Cx} {elt t1 it1 t2 it2 : Expr} {ifs1 ifs2 : List Expr} {scope : Scope} {pos : Pos} {wi1 wi2 : TI} {g1 g2 : TG} {tt1 tt2 : TT} {te : TE} {vs vs2 : List Nat}
theorem lc2_in (hx : X.xe = fun _ _ => False) (hc : X.calm = true) (hi : PI X t2 it2 wi2) (pg : PG X t2 g2) (pt : PTs X ifs2 tt2) (pe : PE X elt te) {pins : List (Addr × Obj)} {s : Shared} {σ : L2.St} {H : Hp} {D : Addr} {Nx : Hp → Prop} (I : Inv X pins σ H s) (h : tLcIn wi2 g2 tt2 te vs2 D σ H Nx) :
    wpAny (model X.prog X.w) X.A (eval it2 X.env) (fun xv s1 => wpAny (model X.prog X.w) X.A (pyIter xv) (fun itv s2 => ∀ (R : Result → Shared → Prop), (∀ s' H', Inv X pins (wipe σ vs2) H' s' → Nx H' → R (.ok .next) s') →
      codeAny (model X.prog X.w) X.A (.compStart (.ListComp elt [⟨t1, it1, ifs1, 0⟩, ⟨t2, it2, ifs2, 0⟩] scope pos) 1 itv (.ref D) X.env) R s2) (fun _ _ => False) s1) (fun _ _ => False) s := by
  have key := hi.run pins s σ H _ I h
  rw [hx] at key
  refine wpAny_mono key (fun xv s1 h1 => wpAny_mono h1 (fun itv s2 h2 => ?_) fun _ _ z => z) fun _ _ z => z
  obtain ⟨it, fp, tn, J, H2, e, I2, T, st2, f2, W, ⟨m0, w0⟩, turn⟩ := h2
  subst e
  intro R fin
  have stat : ∀ {H' : Hp}, (∀ b ∈ fp, H' b = none) → ∀ b ∈ fp, FpOk X pins H' b := fun hn b hb => ⟨hn b hb, (f2 b hb).2⟩
  have I2w : Inv X pins (wipe σ vs2) H2 s2 := I2.weak (wipe_length ..) (fun j v e => (wipe_some e).1)
  have loop : codeAny (model X.prog X.w) X.A (.compLoop (.ListComp elt [⟨t1, it1, ifs1, 0⟩, ⟨t2, it2, ifs2, 0⟩] scope pos) 1 (.ref it) (.ref D) X.env) R s2 := by
    refine codeAny_loop rfl (fun n s' => ∃ i H', Inv X pins (wipe σ vs2) H' s' ∧ tn i s'.heap ∧ (∀ b ∈ fp, H' b = none) ∧ W i n H') ?_ m0 ⟨0, H2, I2w, st2, fun b hb => (f2 b hb).1, w0⟩
    rintro n s3 ⟨i, H3, I3, st3, fr3, w3⟩
    show wpAny _ X.A ((compTurn (.ListComp elt [⟨t1, it1, ifs1, 0⟩, ⟨t2, it2, ifs2, 0⟩] scope pos) 1 (.ref it) (.ref D) X.env).onRaise (fun x => do noteFrame x X.env; theTreesLotGoes x)) _ _ s3
    refine wpAny_noted ?_
    rw [compTurn_list2_in]
    refine wpAny_bind (wpAny_standAt ?_)
    rcases turn i n H3 w3 with ⟨stop, qn⟩ | ⟨go, N2, hN, step⟩
    · refine wpAny_bind (thnF (T.done X rfl rfl rfl hc i pins s3 _ H3 (fun _ _ => False) I3 (stat fr3) st3 stop) fun r s4 hr => ?_)
      obtain ⟨hr, I4⟩ := hr
      subst hr
      exact wpAny_pure (fin s4 H3 I4 qn)
    · refine wpAny_bind (thnF (T.item X rfl rfl rfl hc i pins s3 _ H3 (fun _ _ => False) I3 (stat fr3) st3 go) fun r s4 hr => ?_)
      obtain ⟨u, hr, h4⟩ := hr
      subst hr
      refine wpAny_bind (thnF h4 fun _ s5 h5 => ?_)
      obtain ⟨x, H5, I5, r5, y5, st5, fr5⟩ := h5
      have I5' := I5.pinned (stat fr5) (T.obj _ _ st5)
      have kg := pg.run _ s5 _ H5 x u _ I5' r5 (step x H5 y5)
      rw [hx] at kg
      refine wpAny_bind (thnF kg fun _ s6 h6 => ?_)
      obtain ⟨σ6, H6, I6, hw6, q6⟩ := h6
      have kt := pt.run _ s6 σ6 H6 _ I6 q6
      rw [hx] at kt
      refine wpAny_bind (thnF kt fun b s7 h7 => ?_)
      obtain ⟨H7, I7, q7⟩ := h7
      have again : ∀ {s' : Shared} {H' : Hp}, Inv X (pins ++ pinsAt fp s5.heap) σ6 H' s' → N2 H' → ∃ m, m < n ∧ ∃ i H', Inv X pins (wipe σ vs2) H' s' ∧ tn i s'.heap ∧ (∀ b ∈ fp, H' b = none) ∧ W i m H' := fun {s' H'} I' n7 => by
        obtain ⟨m', hm, w7⟩ := hN H' n7
        have hl : (wipe σ vs2).length = σ6.length := by rw [← hw6, wipe_length]
        refine ⟨m', hm, i + 1, H', (I'.unpinned (pins := pins)).weak hl (fun j v e => ?_), T.keep _ _ _ st5 fun b hb o e => (I'.pin (b, o) (List.mem_append_right _ (List.mem_append_right _ (mem_pinsAt hb e)))).1, fun b hb => ?_, w7⟩
        · rw [← hw6] at e
          exact (wipe_some e).1
        · obtain ⟨o, e, d⟩ := T.obj _ _ st5 b hb
          exact (I'.pin (b, o) (List.mem_append_right _ (List.mem_append_right _ (mem_pinsAt hb e)))).2.1
      cases b with
      | false =>
        simp only [Bool.false_eq_true, if_false] at q7 ⊢
        exact wpAny_pure ⟨rfl, again I7 q7⟩
      | true =>
        simp only [if_true] at q7 ⊢
        have ke := pe.run _ s7 σ6 H7 _ I7 q7
        rw [hx] at ke
        refine wpAny_bind (wpAny_bind (thnF ke fun z s8 h8 => ?_))
        obtain ⟨yv, H8, I8, r8, acc, hD8, hz8, nx⟩ := h8
        exact wpAny_bind (app_ok (X := X) I8 hD8 hz8 r8 fun s9 I9 => wpAny_pure (wpAny_pure ⟨rfl, again I9 nx⟩))
  exact compStart_list2_in loop (T.self X.A 0 _ _ _ st2 loop)
theorem lc2_core {own : List (Str × Nat)} (hc : X.calm = true) (hN : X.N.Nodup) (first : PI X t1 it1 wi1) (ok : BlkOk X.N X.env.scope scope own) (sub : ∀ j ∈ vs2, j ∈ own.map (·.2))
    (P1 : ∀ (s : Shared) (H : Hp) (C : Addr) (cl : List (Str × Addr)) (fp : List Addr), PG (X.blk s H scope (compEnvC scope cl C X.env) fp) t1 g1) (C1 : ∀ (s : Shared) (H : Hp) (C : Addr) (cl : List (Str × Addr)) (fp : List Addr), PTs (X.blk s H scope (compEnvC scope cl C X.env) fp) ifs1 tt1)
    (I2 : ∀ (s : Shared) (H : Hp) (C : Addr) (cl : List (Str × Addr)) (fp : List Addr), PI (X.blk s H scope (compEnvC scope cl C X.env) fp) t2 it2 wi2)
    (P2 : ∀ (s : Shared) (H : Hp) (C : Addr) (cl : List (Str × Addr)) (fp : List Addr), PG (X.blk s H scope (compEnvC scope cl C X.env) fp) t2 g2) (C2 : ∀ (s : Shared) (H : Hp) (C : Addr) (cl : List (Str × Addr)) (fp : List Addr), PTs (X.blk s H scope (compEnvC scope cl C X.env) fp) ifs2 tt2)
    (el : ∀ (s : Shared) (H : Hp) (C : Addr) (cl : List (Str × Addr)) (fp : List Addr), PE (X.blk s H scope (compEnvC scope cl C X.env) fp) elt te)
    (h1 : ∀ x, foldedSetIterable it1 X.env x = pure x ) (h2 : ∀ (C : Addr) (cl : List (Str × Addr)) x, foldedSetIterable it2 (compEnvC scope cl C X.env) x = pure x ) {pins : List (Addr × Obj)} {s : Shared} {σ : L2.St} {H : Hp} {Q : VK} {use : Option (Value → Sem Unit)} {Qf : Value → Shared → Prop} (I : Inv X pins σ H s) (rd : tLc2 wi1 g1 tt1 wi2 g2 tt2 te (own.map (·.2)) vs2 σ H Q)
    (behind : ∀ D C s' m H', Inv X pins σ H' s' → Q (.ref D) H' → s'.heap.Ns C m → FpOk X pins H' C → compPost (model X.prog X.w) X.A X.xe use Qf (.ref D) C (.ok .next) s') :
    wpAny (model X.prog X.w) X.A (comprehension (.ListComp elt [⟨t1, it1, ifs1, 0⟩, ⟨t2, it2, ifs2, 0⟩] scope pos) scope X.env (firstIterPos [⟨t1, it1, ifs1, 0⟩, ⟨t2, it2, ifs2, 0⟩] pos) (newList []) false (eval it1 X.env) use) Qf X.xe s := by
  have closed : ∀ y ∈ scope.names, y.2 = .free → ∃ c, X.env.cells.lookup y.1 = some c := fun y hy e =>
    (ok.free y hy e).elim (fun k => I.ok.has _ (.inl k)) (fun k => I.ok.has _ (.inr k))
  refine wpAny_comprehension_free (use := use) rfl h1 (closure_ok closed) ok.kind (fun y hy e => by rw [ok.uniq y hy, e]) (thn (first.run pins s σ H _ I rd) fun xv sA hA => thn hA fun itv sB hB => ?_)
  obtain ⟨it, fp, tn, J, HB, rfl, IB, T, stB, fB, q⟩ := hB
  refine wpAny_newObj_type (newEnv_comp ?_) (by show 0 ≤ sizeLine; decide)
  generalize hD : sB.heap.objs.size = D
  have noD : HB D = none := IB.hok.fresh (Nat.le_of_eq hD)
  obtain ⟨W, ⟨m0, w0⟩, turn⟩ := q D noD
  generalize hs3 : ({ sB with heap := sB.heap.push { cls := .type "list", data := .seq ([] : List Value).toArray } } : Shared) = s3
  have I3 : Inv X pins σ (upd HB D (.lst [])) s3 := by
    rw [← hs3]
    exact IB.laid (t' := sB.toks) (fun b o e => Heap.get?_push_of_some _ e) (Nat.le_of_eq hD) ⟨Nat.zero_le _, [], 0, .nil, by rw [← hD]; exact Heap.get?_push_size _ rfl⟩
  have h3 : s3.heap = sB.heap.push { cls := .type "list", data := .seq ([] : List Value).toArray } := by rw [← hs3]
  have f3 : ∀ b ∈ fp, FpOk X pins (upd HB D (.lst [])) b ∧ b < s3.heap.objs.size := fun b hb => by
    obtain ⟨o, e, _⟩ := T.obj _ _ stB b hb
    have lt : b < sB.heap.objs.size := Heap.lt_size e
    have ne : b ≠ D := by rw [← hD]; exact Nat.ne_of_lt lt
    exact ⟨⟨by rw [upd_ne ne]; exact (fB b hb).1, (fB b hb).2⟩, by rw [h3, Heap.size_push]; exact Nat.lt_succ_of_lt lt⟩
  have st3 : tn 0 s3.heap := T.keep _ _ _ stB fun b _ o e => by rw [h3]; exact Heap.get?_push_of_some _ e
  have I4 := block_start I3 ok hN f3
  have p1 := P1 s3 (upd HB D (.lst [])) s3.heap.objs.size (cellsFrom (s3.heap.objs.size + 1) scope.names (cloFrom X.env.cells scope.names [])) fp
  have c1 := C1 s3 (upd HB D (.lst [])) s3.heap.objs.size (cellsFrom (s3.heap.objs.size + 1) scope.names (cloFrom X.env.cells scope.names [])) fp
  have i2 := I2 s3 (upd HB D (.lst [])) s3.heap.objs.size (cellsFrom (s3.heap.objs.size + 1) scope.names (cloFrom X.env.cells scope.names [])) fp
  have p2 := P2 s3 (upd HB D (.lst [])) s3.heap.objs.size (cellsFrom (s3.heap.objs.size + 1) scope.names (cloFrom X.env.cells scope.names [])) fp
  have c2 := C2 s3 (upd HB D (.lst [])) s3.heap.objs.size (cellsFrom (s3.heap.objs.size + 1) scope.names (cloFrom X.env.cells scope.names [])) fp
  have e2 := el s3 (upd HB D (.lst [])) s3.heap.objs.size (cellsFrom (s3.heap.objs.size + 1) scope.names (cloFrom X.env.cells scope.names [])) fp
  have fold2 := h2 s3.heap.objs.size (cellsFrom (s3.heap.objs.size + 1) scope.names (cloFrom X.env.cells scope.names []))
  show codeAny _ _ (.compStart (.ListComp elt [⟨t1, it1, ifs1, 0⟩, ⟨t2, it2, ifs2, 0⟩] scope pos) 0 (.ref it) (.ref D) (compEnvC scope (cellsFrom (s3.heap.objs.size + 1) scope.names (cloFrom X.env.cells scope.names [])) s3.heap.objs.size X.env)) (compPost (model X.prog X.w) X.A X.xe use Qf (.ref D) s3.heap.objs.size) { s3 with heap := pushCells (s3.heap.push { cls := .type "dict", data := .dict #[] }) scope.names }
  have nfp : ∀ b ∈ fp, (upd HB D (.lst [])) b = none := fun b hb => (f3 b hb).1.1
  generalize hce : compEnvC scope (cellsFrom (s3.heap.objs.size + 1) scope.names (cloFrom X.env.cells scope.names [])) s3.heap.objs.size X.env = ce at I4 p1 c1 i2 p2 c2 e2 fold2 ⊢
  have cL : ce.locals = s3.heap.objs.size := by subst hce; rfl
  generalize hH3 : upd HB D (.lst []) = H3 at I3 I4 p1 c1 i2 p2 c2 e2 w0 nfp f3
  generalize hs4 : ({ s3 with heap := pushCells (s3.heap.push { cls := .type "dict", data := .dict #[] }) scope.names } : Shared) = s4 at I4 ⊢
  have st4 : tn 0 s4.heap := T.keep _ _ _ st3 fun b _ o e => by rw [← hs4]; exact pushCells_keeps _ _ _ _ (Heap.get?_push_of_some _ e)
  have stat : ∀ {σ' : L2.St} {H' : Hp} {s' : Shared}, Inv (X.blk s3 H3 scope ce fp) [] σ' H' s' → (∀ b ∈ fp, H' b = none) → ∀ b ∈ fp, FpOk (X.blk s3 H3 scope ce fp) [] H' b := fun {σ' H' s'} I' hn b hb =>
    ⟨hn b hb, (I'.ok.exf b hb).1, I'.ok.exfs b hb, .inl hb, fun x c e => (I'.ok.exf b hb).2 x c e, fun p hp => absurd (show p ∈ ([] : List (Addr × Obj)) ++ [] from hp) (by simp)⟩
  have loop : codeAny (model X.prog X.w) X.A (.compLoop (.ListComp elt [⟨t1, it1, ifs1, 0⟩, ⟨t2, it2, ifs2, 0⟩] scope pos) 0 (.ref it) (.ref D) ce) (compPost (model X.prog X.w) X.A X.xe use Qf (.ref D) s3.heap.objs.size) s4 := by
    refine codeAny_loop rfl (fun n s' => ∃ i H', Inv (X.blk s3 H3 scope ce fp) [] (wipe σ (own.map (·.2))) H' s' ∧ tn i s'.heap ∧ (∀ b ∈ fp, H' b = none) ∧ W i n H') ?_ m0 ⟨0, H3, I4, st4, nfp, w0⟩
    rintro n s5 ⟨i, H5, I5, st5, n5, w5⟩
    show wpAny _ X.A ((compTurn (.ListComp elt [⟨t1, it1, ifs1, 0⟩, ⟨t2, it2, ifs2, 0⟩] scope pos) 0 (.ref it) (.ref D) ce).onRaise (fun x => do noteFrame x ce; theTreesLotGoes x)) _ _ s5
    refine wpAny_noted ?_
    rw [compTurn_list2_out]
    refine wpAny_bind (wpAny_standAt ?_)
    rcases turn i n H5 w5 with ⟨stop, qq⟩ | ⟨go, Nx, hNx, step⟩
    · refine wpAny_bind (thnF (T.done (X.blk s3 H3 scope ce fp) rfl rfl rfl hc i [] s5 _ H5 (fun _ _ => False) I5 (stat I5 n5) st5 stop) fun r s6 hr => ?_)
      obtain ⟨hr, I6⟩ := hr
      subst hr
      refine wpAny_pure ?_
      have I7 : Inv X pins σ H5 s6 := I3.call' (ch := fp) I6.os I6.base I6.hok I6.bare fun b hb => ⟨(f3 b hb).1.2.2.2.1, (f3 b hb).1.2.1, (f3 b hb).1.2.2.2.2.1, (f3 b hb).1.2.2.2.2.2⟩
      have nC : H5 s3.heap.objs.size = none := by
        have z : H5 ce.locals = none := I6.free
        rw [cL] at z
        exact z
      obtain ⟨m, hn, _⟩ := I6.loc
      have hn : s6.heap.Ns ce.locals m := hn
      rw [cL] at hn
      exact behind D s3.heap.objs.size s6 m H5 I7 qq hn (I3.fpOk (Nat.le_refl _) nC)
    · refine wpAny_bind (thnF (T.item (X.blk s3 H3 scope ce fp) rfl rfl rfl hc i [] s5 _ H5 (fun _ _ => False) I5 (stat I5 n5) st5 go) fun r s6 hr => ?_)
      obtain ⟨u, hr, h6⟩ := hr
      subst hr
      refine wpAny_bind (thnF h6 fun _ s7 h7 => ?_)
      obtain ⟨x, H7, I7, r7, y7, st7, n7⟩ := h7
      have I7' := I7.pinned (stat I7 n7) (T.obj _ _ st7)
      refine wpAny_bind (thnF (p1.run _ s7 _ H7 x u _ I7' r7 (step x H7 y7)) fun _ s8 h8 => ?_)
      obtain ⟨σ8, H8, I8, hw8, q8⟩ := h8
      refine wpAny_bind (thnF (c1.run _ s8 σ8 H8 _ I8 q8) fun b s9 h9 => ?_)
      obtain ⟨H9, I9, q9⟩ := h9
      have back : ∀ {s' : Shared} {σ' : L2.St} {H' : Hp}, Inv (X.blk s3 H3 scope ce fp) ([] ++ pinsAt fp s7.heap) σ' H' s' → (wipe σ (own.map (·.2))).length = σ'.length → (∀ (j : Nat) (v : V), (wipe σ (own.map (·.2)))[j]? = some (some v) → σ'[j]? = some (some v)) → Nx H' →
          ∃ m, m < n ∧ ∃ i H', Inv (X.blk s3 H3 scope ce fp) [] (wipe σ (own.map (·.2))) H' s' ∧ tn i s'.heap ∧ (∀ b ∈ fp, H' b = none) ∧ W i m H' := fun {s' σ' H'} I' hl hv nx => by
        obtain ⟨m', hm, w'⟩ := hNx H' nx
        refine ⟨m', hm, i + 1, H', (I'.unpinned (pins := [])).weak hl hv, T.keep _ _ _ st7 fun b hb o e => (I'.pin (b, o) (List.mem_append_right _ (List.mem_append_right _ (mem_pinsAt hb e)))).1, fun b hb => ?_, w'⟩
        obtain ⟨o, e, _⟩ := T.obj _ _ st7 b hb
        exact (I'.pin (b, o) (List.mem_append_right _ (List.mem_append_right _ (mem_pinsAt hb e)))).2.1
      have hl8 : (wipe σ (own.map (·.2))).length = σ8.length := by rw [← hw8, wipe_length]
      cases b with
      | false =>
        simp only [Bool.false_eq_true, if_false] at q9 ⊢
        exact wpAny_pure ⟨rfl, back I9 hl8 (fun j v e => by rw [← hw8] at e; exact (wipe_some e).1) q9⟩
      | true =>
        simp only [if_true] at q9 ⊢
        refine wpAny_bind (thnF (lc2_in (X := X.blk s3 H3 scope ce fp) (t1 := t1) (it1 := it1) (ifs1 := ifs1) (scope := scope) (pos := pos) rfl hc i2 p2 c2 e2 I9 q9) fun xv s10 h10 => ?_)
        refine wpAny_bind (wpAny_standAt (wpAny_bind (wpAny_of_eq (fold2 xv) ?_)))
        refine wpAny_bind (wpAny_holding (thnF h10 fun itv s11 h11 => ?_))
        refine wpAny_bind (wpAny_runOwn ?_)
        refine h11 _ fun s' H' I' nx => ?_
        refine wpAny_pure ⟨rfl, back I' (by rw [wipe_length, wipe_length]; rw [wipe_length] at hl8; exact hl8) (fun j v e => ?_) nx⟩
        rw [← hw8] at e
        have z := wipe_some e
        rw [wipe_out fun hj => z.2 (sub j hj)]
        exact z.1
  exact codeAny_compStart_list loop (T.self X.A 0 _ _ _ st4 loop)
/-- [elt for t1 in it1 if .. for t2 in it2 if ..] -/
theorem pe_lc2 {own : List (Str × Nat)} (hc : X.calm = true) (hN : X.N.Nodup) (first : PI X t1 it1 wi1) (ok : BlkOk X.N X.env.scope scope own) (sub : ∀ j ∈ vs2, j ∈ own.map (·.2))
    (P1 : ∀ (s : Shared) (H : Hp) (C : Addr) (cl : List (Str × Addr)) (fp : List Addr), PG (X.blk s H scope (compEnvC scope cl C X.env) fp) t1 g1) (C1 : ∀ (s : Shared) (H : Hp) (C : Addr) (cl : List (Str × Addr)) (fp : List Addr), PTs (X.blk s H scope (compEnvC scope cl C X.env) fp) ifs1 tt1)
    (I2 : ∀ (s : Shared) (H : Hp) (C : Addr) (cl : List (Str × Addr)) (fp : List Addr), PI (X.blk s H scope (compEnvC scope cl C X.env) fp) t2 it2 wi2)
    (P2 : ∀ (s : Shared) (H : Hp) (C : Addr) (cl : List (Str × Addr)) (fp : List Addr), PG (X.blk s H scope (compEnvC scope cl C X.env) fp) t2 g2) (C2 : ∀ (s : Shared) (H : Hp) (C : Addr) (cl : List (Str × Addr)) (fp : List Addr), PTs (X.blk s H scope (compEnvC scope cl C X.env) fp) ifs2 tt2)
    (el : ∀ (s : Shared) (H : Hp) (C : Addr) (cl : List (Str × Addr)) (fp : List Addr), PE (X.blk s H scope (compEnvC scope cl C X.env) fp) elt te)
    (h1 : ∀ x, foldedSetIterable it1 X.env x = pure x := by intro _; rfl) (h2 : ∀ (C : Addr) (cl : List (Str × Addr)) x, foldedSetIterable it2 (compEnvC scope cl C X.env) x = pure x := by intro _ _ _; rfl) :
    PE X (.ListComp elt [⟨t1, it1, ifs1, 0⟩, ⟨t2, it2, ifs2, 0⟩] scope pos) (tLc2 wi1 g1 tt1 wi2 g2 tt2 te (own.map (·.2)) vs2) := by
  refine ⟨fun pins s σ H Q I rd => ?_⟩
  rw [eval_ListComp]
  refine lc2_core hc hN first ok sub P1 C1 I2 P2 C2 el h1 h2 I rd fun D C s' m H' I' q hn f => ⟨m, hn, fun h'' sb => ?_⟩
  obtain ⟨f0, f1, f2, f3, f4, f5⟩ := f
  exact ⟨.ref D, H', I'.turned (t' := s'.toks) (fun b o hb e => (sb.2 b hb).trans e) f0 f1 f3 f4 f5, rfl, q⟩
/-- name = [..] on one row, the name a local -/
theorem ps_setLc2 {i : Nat} {y : Str} {py spos : Pos} {own : List (Str × Nat)} (hc : X.calm = true) (hN : X.N.Nodup) (hy : X.N[i]? = some y) (hyl : X.env.scope.names.lookup y = some .local)
    (hsw : swapsWith (.ListComp elt [⟨t1, it1, ifs1, 0⟩, ⟨t2, it2, ifs2, 0⟩] scope pos) (some (.Name y py)) spos.line X.env = pure true) (first : PI X t1 it1 wi1) (ok : BlkOk X.N X.env.scope scope own) (sub : ∀ j ∈ vs2, j ∈ own.map (·.2))
    (P1 : ∀ (s : Shared) (H : Hp) (C : Addr) (cl : List (Str × Addr)) (fp : List Addr), PG (X.blk s H scope (compEnvC scope cl C X.env) fp) t1 g1) (C1 : ∀ (s : Shared) (H : Hp) (C : Addr) (cl : List (Str × Addr)) (fp : List Addr), PTs (X.blk s H scope (compEnvC scope cl C X.env) fp) ifs1 tt1)
    (I2 : ∀ (s : Shared) (H : Hp) (C : Addr) (cl : List (Str × Addr)) (fp : List Addr), PI (X.blk s H scope (compEnvC scope cl C X.env) fp) t2 it2 wi2)
    (P2 : ∀ (s : Shared) (H : Hp) (C : Addr) (cl : List (Str × Addr)) (fp : List Addr), PG (X.blk s H scope (compEnvC scope cl C X.env) fp) t2 g2) (C2 : ∀ (s : Shared) (H : Hp) (C : Addr) (cl : List (Str × Addr)) (fp : List Addr), PTs (X.blk s H scope (compEnvC scope cl C X.env) fp) ifs2 tt2)
    (el : ∀ (s : Shared) (H : Hp) (C : Addr) (cl : List (Str × Addr)) (fp : List Addr), PE (X.blk s H scope (compEnvC scope cl C X.env) fp) elt te)
    (h1 : ∀ x, foldedSetIterable it1 X.env x = pure x := by intro _; rfl) (h2 : ∀ (C : Addr) (cl : List (Str × Addr)) x, foldedSetIterable it2 (compEnvC scope cl C X.env) x = pure x := by intro _ _ _; rfl) :
    PS X (.Assign [.Name y py] (.ListComp elt [⟨t1, it1, ifs1, 0⟩, ⟨t2, it2, ifs2, 0⟩] scope pos) spos) (tAsg (tLc2 wi1 g1 tt1 wi2 g2 tt2 te (own.map (·.2)) vs2) (gName i)) := by
  refine ⟨fun pins s σ H D I h => ?_⟩
  rw [exec_Assign_Name_used _ _ _ _ hsw]
  refine wpAny_bind (wpAny_standAt (wpAny_bind ?_))
  show wpAny _ X.A (do let _ ← comprehension (.ListComp elt [⟨t1, it1, ifs1, 0⟩, ⟨t2, it2, ifs2, 0⟩] scope pos) scope X.env (firstIterPos [⟨t1, it1, ifs1, 0⟩, ⟨t2, it2, ifs2, 0⟩] pos) (newList []) false (eval it1 X.env) (some (assign (.Name y py) X.env))) _ _ s
  have h : tLc2 wi1 g1 tt1 wi2 g2 tt2 te (own.map (·.2)) vs2 σ H (fun x H1 => gName i x σ H1 D.nx) := h
  refine wpAny_bind (thn (lc2_core (Qf := fun _ s' => SP X pins D .next s') hc hN first ok sub P1 C1 I2 P2 C2 el h1 h2 I h fun L C s' m H' I' q hn f => ?_) fun _ s' hq => wpAny_pure (wpAny_pure hq))
  show wpAny _ _ (assign (.Name y py) X.env (.ref L)) _ _ _
  refine wpAny_assign_Name (store_ok2 (v := V.ref L) I' hN hy (.inl hyl) rfl (fun s2 J ⟨a, sb, ha⟩ => ?_) (.inr hyl))
  obtain ⟨f0, f1, f2, f3, f4, f5⟩ := f
  have ne : C ≠ a := ha.elim (fun z => by rw [z]; exact f1) fun z e => f4 y a z e.symm
  exact ⟨m, hn.sameBut sb ne, fun h3 sb3 => ⟨_, H', J.turned (t' := s2.toks) (fun b o hb e => (sb3.2 b hb).trans e) f0 f1 f3 f4 f5, q⟩⟩
end
end My

set_option Elab.async false
set_option linter.all false
set_option maxRecDepth 100000
set_option maxHeartbeats 4000000
/-! ### [te for p in range(m) for q in range(n)] -/
namespace My
open PySem L2
theorem it_range {m : Nat} {W0 : Hp → Prop} (Pv : Nat → Hp → Prop) {H : Hp} (h0 : Pv 0 H) {Nx : Hp → Prop} {g : TG} {tt : TT} {te : TE} {vs : List Nat} {σ : L2.St} {D : Addr}
    (step : ∀ i H', i < m → Pv i H' → g (.int (i : Nat)) (wipe σ vs) H' fun σ2 H2 => wipe σ2 vs = wipe σ vs ∧ tt σ2 H2 fun b H3 => if b = true then te σ2 H3 fun y H4 => ∃ acc, H4 D = some (.lst acc) ∧ acc.length < sizeLine ∧ Pv (i + 1) (upd H4 D (.lst (acc ++ [y]))) else Pv (i + 1) H3)
    (fin : ∀ H', Pv m H' → Nx H') : ∃ W : Nat → Nat → Hp → Prop, (∃ k, W 0 k H) ∧ ∀ i k H, W i k H →
  ((Itr 0 m).stop i H ∧ Nx H) ∨ ((Itr 0 m).go i H ∧ ∃ N2 : Hp → Prop, (∀ H', N2 H' → ∃ m', m' < k ∧ W (i + 1) m' H') ∧ ∀ x H', (Itr 0 m).yld i H x H' → g x (wipe σ vs) H' fun σ2 H2 => wipe σ2 vs = wipe σ vs ∧ tt σ2 H2 fun b H3 =>
    if b = true then te σ2 H3 fun y H4 => ∃ acc, H4 D = some (.lst acc) ∧ acc.length < sizeLine ∧ N2 (upd H4 D (.lst (acc ++ [y]))) else N2 H3) := by
  refine ⟨fun i k H => k + i = m ∧ Pv i H, ⟨m, rfl, h0⟩, fun i k H h => ?_⟩
  obtain ⟨e, p⟩ := h
  rcases Nat.lt_or_ge i m with lt | ge
  · refine .inr ⟨lt, Pv (i + 1), fun H' p' => ⟨k - 1, by omega, by omega, p'⟩, fun x H' y => ?_⟩
    obtain ⟨rfl, rfl⟩ := y
    rw [Int.zero_add]
    exact step i H' lt p
  · have z : i = m := by omega
    exact .inl ⟨by subst z; first | rfl | exact Nat.le_refl _, fin H (by rw [← z]; exact p)⟩
theorem lc2Rg {ta tb : TA} {te : TE} {σ : L2.St} {H : Hp} {Q : VK} {p q : Nat} (m n : Nat) (hm : m ≤ 1000) (hn : n ≤ 1000) (Pv : Addr → Nat → Nat → Hp → Prop)
    (ha : ∀ R : List V → Hp → Prop, R [.int (m : Nat)] H → ta σ H R)
    (hb : ∀ (D : Addr) (i : Nat) (H' : Hp) (R : List V → Hp → Prop), H D = none → i < m → Pv D i 0 H' → R [.int (n : Nat)] H' → tb ((wipe σ [p, q]).set p (some (.int (i : Nat)))) H' R)
    (hw1 : ∀ x, wipe ((wipe σ [p, q]).set p (some x)) [p, q] = wipe σ [p, q])
    (hw2 : ∀ x y, wipe ((wipe ((wipe σ [p, q]).set p (some x)) [q]).set q (some y)) [q] = wipe ((wipe σ [p, q]).set p (some x)) [q])
    (h0 : ∀ D, H D = none → Pv D 0 0 (upd H D (.lst [])))
    (body : ∀ (D : Addr) (i j : Nat) (H' : Hp), H D = none → i < m → j < n → Pv D i j H' → te ((wipe ((wipe σ [p, q]).set p (some (.int (i : Nat)))) [q]).set q (some (.int (j : Nat)))) H' fun y H4 => ∃ acc, H4 D = some (.lst acc) ∧ acc.length < sizeLine ∧ Pv D i (j + 1) (upd H4 D (.lst (acc ++ [y]))))
    (nextRow : ∀ (D : Addr) (i : Nat) (H' : Hp), Pv D i n H' → Pv D (i + 1) 0 H') (fin : ∀ D H', H D = none → Pv D m 0 H' → Q (.ref D) H') :
    tLc2 (iRng1 ta) (gName p) tYes (iRng1 tb) (gName q) tYes te [p, q] [q] σ H Q := by
  refine ha _ ⟨(m : Nat), rfl, by omega, by omega, fun D nD => ?_⟩
  rw [Int.toNat_natCast]
  refine ⟨fun i k H' => k + i = m ∧ Pv D i 0 H', ⟨m, rfl, h0 D nD⟩, fun i k H1 h => ?_⟩
  obtain ⟨e, pv⟩ := h
  rcases Nat.lt_or_ge i m with lt | ge
  · refine .inr ⟨lt, Pv D (i + 1) 0, fun H' p' => ⟨k - 1, by omega, by omega, p'⟩, fun x H' y => ?_⟩
    obtain ⟨rfl, rfl⟩ := y
    rw [Int.zero_add]
    refine ⟨hw1 _, ?_⟩
    simp only [tYes, if_true]
    refine hb D i H' _ nD lt pv ⟨(n : Nat), rfl, by omega, by omega, ?_⟩
    rw [Int.toNat_natCast]
    exact it_range (W0 := fun _ => True) (Pv D i) pv (fun j H2 hj pj => ⟨hw2 _ _, body D i j H2 nD lt hj pj⟩) fun H2 pj => nextRow D i H2 pj
  · have z : i = m := by omega
    exact .inl ⟨by subst z; first | rfl | exact Nat.le_refl _, fin D H1 nD (by rw [← z]; exact pv)⟩
end My

set_option Elab.async false
set_option linter.all false
set_option maxRecDepth 100000
/-! ### raised out of a walk of a dict: behind it the dict stands as before -/
namespace My
open PySem L2
/-- the same wish, asked where the walked dict is free again -/
def WLock (X : Cx) (W : WX) : WX := fun cls dx σ H => ∃ (d : Addr) (u : HO) (od : Obj), H d = some (.frz od u) ∧ (∀ o v, X.H_0 d ≠ some (.frz o v)) ∧ W cls dx σ (upd H d u)
theorem takes_lock {X : Cx} {W : WX} (tk : Takes X W) : Takes X (WLock X W) := by
  rintro e s' ⟨a, B, sI, pins, σ, H, cls, dx, rfl, I, nb, up, sky, na, os, ag, d, u, od, hd, nf, w⟩
  have ad : a ≠ d := fun z => by rw [z, hd] at na; cases na
  exact tk _ _ ⟨a, B, sI, pins, σ, upd H d u, cls, dx, rfl, I.unlock hd nf, nb, up, sky, by rw [upd_ne ad]; exact na, os, ag, w⟩
end My

set_option Elab.async false
set_option linter.all false
set_option maxRecDepth 100000
set_option maxHeartbeats 4000000
/-! ### defs that close over their class, and super().__init__(..) of an own error -/
namespace My
open PySem L2 NdefX
/-- a block whose activation is known -/
structure PSat (X : Cx) (c : Code) (body : List Stmt) (t : TS) : Prop where
  run : ∀ (pins : List (Addr × Obj)) (s : Shared) (σ : L2.St) (H : Hp) (D : Ends), Inv X pins σ H s → t D σ H → wpAt (model X.prog X.w) X.A c (execs body X.env) (SP X pins D) X.xe s
structure PSat1 (X : Cx) (c : Code) (st : Stmt) (t : TS) : Prop where
  run : ∀ (pins : List (Addr × Obj)) (s : Shared) (σ : L2.St) (H : Hp) (D : Ends), Inv X pins σ H s → t D σ H → wpAt (model X.prog X.w) X.A c (exec st X.env) (SP X pins D) X.xe s
theorem psat_of {X : Cx} {c : Code} {body : List Stmt} {t : TS} (h : PSs X body t) : PSat X c body t := ⟨fun pins s σ H D I q => wpAt_of_wpAny (h.run pins s σ H D I q)⟩
theorem psat_cons {X : Cx} {c : Code} {st : Stmt} {rest : List Stmt} {t u : TS} (h1 : PSat1 X c st t) (h2 : PSs X rest u) : PSat X c (st :: rest) (tSeq t u) := by
  refine ⟨fun pins s σ H D I q => ?_⟩
  refine PySem.ks_wpAt_execs_cons (wpAt_mono (h1.run pins s σ H { D with nx := u D } I q) (fun f s1 r => ?_) fun _ _ z => z)
  cases f with
  | next =>
    obtain ⟨σ', H', I', r⟩ := r
    exact wpAt_of_wpAny (h2.run pins s1 σ' H' D I' r)
  | brk => exact r
  | cont => exact r
  | ret u => exact r
/-- the words of a def that closes over its class -/
def nfOf (x qual : Str) (st : Stmt) (cc cda : Addr) : NF := ⟨x, qual, defArgs st, defBody st, defScope st, [("__class__", cc)], cda⟩
structure FunX (K : PySem.W.Frag) (x qual : Str) (st : Stmt) (f : Addr) (fd : FuncData) (cc cda D : Addr) : Prop where
  ex : ∃ (oc : Value) (od : Option Addr) (kV doc pm : Value) (an : Option Addr) (ct : Value) (osl : Array (Option Value)),
    fd = PySem.W.fnX x qual (defArgs st) (defBody st) (defScope st) [("__class__", cc)] .none kV doc pm an (.ref cda) ct ∧ K.lookup f = some ⟨oc, od, .func fd, osl⟩ ∧ PySem.W.codeIn K (.ref cda) qual = true
  cell : ∃ (cl : Value) (cld : Option Addr) (csl : Array (Option Value)), K.lookup cc = some ⟨cl, cld, .cell (some (.ref D)), csl⟩
  kp : PySem.W.keepIn K (.ref f) = true
section
variable {P : Program} {w : World} {K : PySem.W.Frag} {mg : Str → Option Value} {base : Heap}
abbrev cxX (CX : CXT) (P : Program) (w : World) (K : PySem.W.Frag) (mg : Str → Option Value) (base : Heap) (N : List Str) (x qual : Str) (st : Stmt) (cc cda f : Addr) (A : Around) (outer : List Env) (s : Shared) (H : Hp) (E : XK) : Cx := ncx CX P w K mg base N (nfOf x qual st cc cda) f A outer s H E
theorem FunX.ok {CX : CXT} {x qual : Str} {st : Stmt} {f cc cda D : Addr} {fd : FuncData} {N ps : List Str} {k : Nat} {sp : Sp} (F : FunX K x qual st f fd cc cda D) (S : NScope N ps ["__class__"] (defScope st)) (len : ∀ vs H Q E, sp vs H Q E → vs.length = ps.length)
    (hbody : ∀ (A : Around) (outer : List Env) (s : Shared) (H : Hp) (vs : List V) (Q : VK) (E : XK), Room k (A.deeper (envF (nfOf x qual st cc cda) f s.heap.objs.size)) → sp vs H Q E →
      ∃ t, PSat (cxX CX P w K mg base N x qual st cc cda f A outer s H E) (.func (defBody st) (envF (nfOf x qual st cc cda) f s.heap.objs.size)) (defBody st) t ∧ t { nx := fun _ H' => Q .non H', rt := Q } (startF N vs [some (.ref D)]) H) :
    FnOk P w K mg base CX (k + 1) f fd ps sp := by
  obtain ⟨oc, od, kV, doc, pm, an, ct, osl, rfl, lk, hcd⟩ := F.ex
  obtain ⟨cl, cld, csl, hcc⟩ := F.cell
  refine ⟨len, fun A outer s H args us vs Q E hr e0 hb r hsp => ?_⟩
  have hl := len _ _ _ _ hsp
  have KX : K.In s.heap := e0.mod.kin.keeps fun b o e => (e0.bs b o e).1
  have lim : s.heap.NoLimit := e0.mod.nolimit.keeps fun b o e => (e0.bs b o e).1
  have hcB := e0.mod.kin _ _ hcc
  have C : CellsAt (nfOf x qual st cc cda).cl ["__class__"] [some (.ref D)] s.heap H := by
    refine ⟨rfl, fun y c e => ?_, fun a b c e1 e2 => ?_, fun i y e => ?_⟩
    · have e' : (if y = ("__class__" : Str) then some cc else none) = some c := by
        rw [← e]
        show _ = List.lookup y [(("__class__" : Str), cc)]
        rw [List.lookup_cons, List.lookup_nil]
        by_cases h : y = ("__class__" : Str)
        · rw [if_pos h, beq_iff_eq.mpr h]
        · rw [if_neg h, beq_eq_false_iff_ne.mpr h]
      split at e'
      · cases e'
        exact ⟨(e0.bs _ _ hcB).2, _, _, KX _ _ hcc, rfl⟩
      · cases e'
    · have g : ∀ (y : Str) (d : Addr), List.lookup y [(("__class__" : Str), cc)] = some d → y = "__class__" := by
        intro y d e
        rw [List.lookup_cons, List.lookup_nil] at e
        by_cases h : y = ("__class__" : Str)
        · exact h
        · rw [beq_eq_false_iff_ne.mpr h] at e
          cases e
      exact (g a c e1).trans (g b c e2).symm
    · match i, e with
      | 0, e =>
        have ey : y = "__class__" := (Option.some.inj e).symm
        subst ey
        exact ⟨cc, rfl, fun v hv => ⟨.ref D, by cases hv; rfl, _, KX _ _ hcc, rfl⟩⟩
      | i + 1, e => cases e
  refine PySem.ks_codeAny_call_defAt (fd := PySem.W.fnX x qual (defArgs st) (defBody st) (defScope st) [("__class__", cc)] .none kV doc pm an (.ref cda) ct) (body := defBody st) (binds := ps.zip us) hr.depth (KX _ _ lk) rfl lim (PySem.W.codeRec_of KX hcd) rfl hb S.nocell (fun ⟨n, v⟩ hy => S.par n (List.of_mem_zip hy).1) (fun h₁ hns kp => ?_) S.co S.gen S.kind
  obtain ⟨t, ht, hq⟩ := hbody A outer s H vs Q E (hr.deeper _) hsp
  have I : Inv (cxX CX P w K mg base N x qual st cc cda f A outer s H E) [] (startF N vs [some (.ref D)]) H { s with heap := h₁, toks := s.toks + (ps.zip us).length } := inv_startN S hr.hd e0 hl r C hns kp
  refine wpAt_mono (ht.run [] _ (startF N vs [some (.ref D)]) H _ I hq) (fun fl s' hs => ?_) fun e s' hs => hs
  have fin : ∀ {σ' : L2.St} {H' : Hp} {v : V} {u : Value}, Inv (cxX CX P w K mg base N x qual st cc cda f A outer s H E) [] σ' H' s' → L2.RelV v u → Q v H' → CE outer P w H s Q u s' :=
    fun {σ' H' v u} J rv q => ⟨v, H', J.os, J.bare, J.base, J.hok, rv, q⟩
  cases fl with
  | ret u =>
    obtain ⟨v, σ', H', J, rv, q⟩ := hs
    exact fin J rv q
  | next =>
    obtain ⟨σ', H', J, q⟩ := hs
    exact fin (v := V.non) (u := Value.none) J rfl q
  | brk =>
    obtain ⟨_, _, _, q⟩ := hs
    exact False.elim q
  | cont =>
    obtain ⟨_, _, _, q⟩ := hs
    exact False.elim q
end

/-! ### super().__init__(e) -/
/-- what the written part says of an own error that is made by an __init__ of its own: OexC, its place in the chain -/
structure ErrC (K : PySem.W.Frag) (C : Addr) : Prop where
  ox : OexC K C
  sup : PySem.W.ks_superIn K C C "__init__" = some (some (.builtin "ValueError.__init__"))
  isV : PySem.W.subIn K (.ref C) (.type "ValueError") = some true
  opq : PySem.W.nsIn K cStatics "thirdparty.any" = some none
  me : PySem.W.mroIn K C (.ref C) = some true
/-- what the code object of the def tells -/
structure CodeF (K : PySem.W.Frag) (P : Program) (cda : Addr) : Prop where
  at_ : ∃ (ccl : Value) (cdd : Option Addr) (vs : Array Value) (ccs : Array (Option Value)) (file : Str) (tf : Tok), K.lookup cda = some ⟨ccl, cdd, .fields vs, ccs⟩ ∧ vs[2]? = some (.str file tf) ∧ ((P.main.file : Str) == file) = true
  noTop : (P.main.scope.names.lookup ("super" : Str)).isSome = false
/-- the reading: the text is reckoned, nothing more -/
def tSupI (C : Addr) (ta : TA) : TS := fun D σ H => ∃ a : Addr, σ[0]? = some (some (.ref a)) ∧ H a = some (exo a C none) ∧ ta σ H fun vs H1 => vs.length ≤ 1000 ∧ H1 a = some (exo a C none) ∧ D.nx σ H1
section
variable {X : Cx}
theorem psat_sup {body : List Stmt} {f cc cda C : Addr} {fd : FuncData} {oc : Value} {od : Option Addr} {osl : Array (Option Value)} {cl : Value} {cld : Option Addr} {csl : Array (Option Value)} {ar : Arg} {e : Expr} {es : List Expr} {ta : TA} {p0 p1 apos cpos pos : Pos} {pl : Sem Bool}
    (T : ErrC X.K C) (G : CodeF X.K X.prog cda)
    (hf : X.K.lookup f = some ⟨oc, od, .func fd, osl⟩) (hp : (fd.params.posonlyargs ++ fd.params.args).head? = some ar)
    (hcell : X.K.lookup cc = some ⟨cl, cld, .cell (some (.ref C)), csl⟩) (hsuper : X.mg "super" = none)
    (hfu : X.env.func = some f) (hco : X.env.code = .ref cda) (hcl : X.env.cells.lookup ("__class__" : Str) = some cc)
    (hks : X.env.scope.names.lookup ("super" : Str) = some .globalImplicit) (hkc : X.env.scope.names.lookup ("__class__" : Str) = some .free) (hka : X.env.scope.names.lookup ar.arg = some .local)
    (hN : X.N[0]? = some ar.arg) (ha : PA X (e :: es) ta)
    (hev : eval (.Call (.Attribute (.Call (.Name "super" p0) [] [] p1) "__init__" apos) (e :: es) [] cpos) X.env = (do
      let ov ← attributeBase (.Call (.Name "super" p0) [] [] p1) "__init__" X.env (eval (.Call (.Name "super" p0) [] [] p1) X.env)
      standAt apos.atName
      let (f, first) ← holding [ov] (getMethod ov "__init__" pl)
      callWith cpos f first (backTo cpos (starEach (e :: es) X.env)) []))
    (hst : starEach (e :: es) X.env = (false, eval e X.env) :: starEach es X.env) (hpl : (backTo cpos (starEach es X.env)).any (·.1) = false)
    (hsw : swapsWith (.Call (.Attribute (.Call (.Name "super" p0) [] [] p1) "__init__" apos) (e :: es) [] cpos) none pos.line X.env = pure false) (hint : interactive X.env = false) :
    PSat1 X (.func body X.env) (.Expr (.Call (.Attribute (.Call (.Name "super" p0) [] [] p1) "__init__" apos) (e :: es) [] cpos) pos) (tSupI C ta) := by
  refine ⟨fun pins s σ H D I h => ?_⟩
  obtain ⟨a, hσ, ea, q⟩ := h
  obtain ⟨ccl, cdd, vs, ccs, file, tf, hcode, hvs, hfile⟩ := G.at_
  obtain ⟨nm, qn, N, bs, bm, sn, sub, ab, col, dd, k0, k1, k2, k3, k5, hC, hbm⟩ := T.ox.cls
  have hcls : PySem.W.clsIn X.K C = some { name := nm, bases := bs, mro := .ref C :: bm, ns := N, qualname := qn, hasDict := true, slotNames := sn, subclasses := sub, abstract := ab, collection := col, hasDel := false } := by unfold PySem.W.clsIn; rw [hC] <;> rfl
  obtain ⟨t1, ho⟩ := exo_at I.hok ea
  obtain ⟨hh, g, d, t, os⟩ := s
  have XK := I.kIn
  obtain ⟨mb, hb1, hb2⟩ := I.mod.blt
  obtain ⟨m, hn, hl⟩ := id I.loc
  obtain ⟨u0, ru0, lk0⟩ := hl 0 ar.arg (.ref a) hN hσ (.inl hka)
  obtain rfl : u0 = Value.ref a := ru0
  have hv : m ar.arg = some (Value.ref a) := by
    rcases lk0 with ⟨_, e⟩ | ⟨z, _⟩
    · exact e
    · exfalso
      rcases z with z | z
      · have z' : X.env.scope.names.lookup ar.arg = some .cell := z
        rw [hka] at z'; cases z'
      · have z' : X.env.scope.names.lookup ar.arg = some .free := z
        rw [hka] at z'; cases z'
  refine PySem.ks_wpAt_Expr_any (PySem.ks_wpAt_MethodCall ?_ hev) hint hsw
  refine PySem.ks_wpAt_super_base (env := X.env) hks hkc (by decide) hfu (XK _ _ hf) rfl hp hco (XK _ _ hcode) rfl hvs hfile G.noTop ?_
  refine PySem.W.ks_loadName_global I.ok.kind hks (PySem.Calls.loadGlobal_builtin (by rw [I.ok.glob]; exact I.mod.glob.keeps I.bk) hsuper (by rw [I.ok.blt]; exact hb1.keeps I.bk) ((hb2 "super" (by decide)).trans (by decide +kernel)) ⟨rfl, ?_⟩)
  refine wpAny_loadName_free I.ok.kind hkc hcl ⟨_, XK _ _ hcell, rfl⟩ ?_
  refine wpAny_loadName_local I.ok.kind hka hn hv ?_
  refine ks_wpAny_isType_cls (XK _ _ hC) rfl ⟨rfl, ?_⟩
  refine ks_wpAny_call_super (XK _ _ hC) rfl ho rfl (fun c z => nomatch z) (PySem.W.looks_mroIn XK T.me) (fun h' e1 k1' => ?_)
  have I1 : Inv X pins σ H ⟨h', g, d, t, os⟩ := I.kept (t' := t) k1'
  have X1 := I1.kIn
  have ho1 := k1' _ _ ho
  have IA : PySem.W.InstAt h' a _ C none := ⟨ho1, rfl, rfl, trivial⟩
  refine PySem.W.kxs_getMethod PySem.W.kxs_ValueError e1 (PySem.W.looks_opaque X1 T.opq) (l₀ := .ref C :: bm) ?_ rfl X1 ?_ (IA.type.andThen (PySem.W.looks_subIn X1 T.isV)) (PySem.W.ks_ne X1 IA hcls) (by decide) ?_
  · exact fun A Q E s k q => wpAny_bind ((PySem.W.looks_clsIn X1 hcls) A _ E s k (wpAny_pure q))
  · have q1 := T.sup
    unfold PySem.W.ks_superIn at q1
    rw [hcls] at q1
    exact q1
  have I2 : Inv X pins σ H ⟨h'.push (PySem.W.kxs_mw "ValueError.__init__" a), g, d, t + 1, os⟩ := I1.kept (t' := t + 1) (fun b o z => Heap.get?_push_of_some _ z)
  have hu2 : (h'.push (PySem.W.kxs_mw "ValueError.__init__" a)).get? h'.objs.size = some (PySem.W.kxs_mw "ValueError.__init__" a) := Heap.get?_push_size _ rfl
  have hHu : H h'.objs.size = none := I1.hok.fresh (Nat.le_refl _)
  have J2 : Inv X ((h'.objs.size, PySem.W.kxs_mw "ValueError.__init__" a) :: pins) σ H ⟨h'.push (PySem.W.kxs_mw "ValueError.__init__" a), g, d, t + 1, os⟩ := by
    refine I2.pins_of fun p hp => ?_
    rcases List.mem_cons.mp hp with rfl | hp
    · exact ⟨hu2, hHu, Nat.ne_of_gt I1.lt, I1.nofs (Nat.le_refl _), fun v z => nomatch z⟩
    · exact I2.pin p (List.mem_append_right _ hp)
  have key : wpAny (model X.prog X.w) X.A (spliced (backTo cpos (starEach (e :: es) X.env))) (fun vs s₁ => PySem.W.KxsAt "ValueError.__init__" h'.objs.size a s₁.heap ∧ wpAny (model X.prog X.w) X.A (call (.ref h'.objs.size) vs) (fun _ => SP X pins D .next) X.xe s₁) X.xe ⟨h'.push (PySem.W.kxs_mw "ValueError.__init__" a), g, d, t + 1, os⟩ := by
    refine thn (ha.run cpos _ _ σ H _ J2 q) fun us s3 ⟨vs3, H1, I3, rv, hvl, ea1, qn⟩ => ?_
    have hu3 := (I3.pin (h'.objs.size, PySem.W.kxs_mw "ValueError.__init__" a) (List.mem_append_right _ List.mem_cons_self)).1
    refine ⟨hu3, ?_⟩
    have J3 : Inv X pins σ H1 s3 := I3.pins_of fun p hp => I3.pin p (List.mem_append_right _ (List.mem_cons_of_mem _ hp))
    obtain ⟨t2, ho3⟩ := exo_at J3.hok ea1
    have hus : us.length ≤ sizeLine := by
      rw [← Paired.length rv, sizeLine_eq]; omega
    have hC3 := J3.kIn _ _ hC
    obtain ⟨h3, g3, d3, tk3, os3⟩ := s3
    refine wpAny_call (codeAny_of_tree ?_)
    show wpAny _ X.A.in1 (callAny (.ref h'.objs.size) ⟨us, []⟩) _ _ _
    simp only [callAny]
    refine wpAny_bind (wpAny_load hu3 ?_)
    simp only [PySem.W.kxs_mw, show (Value.type "method-wrapper" == Value.type "method" || Value.type "method-wrapper" == Value.type "builtin_function_or_method" || Value.type "method-wrapper" == Value.type "method-wrapper") = true by decide, if_true]
    refine PySem.W.KFB.if_so (by decide) ?_
    refine wpAny_bind (PySem.W.check_bound_init F.excBase_ValueError.toExcCallFacts hC3 ho3 rfl ?_)
    refine wpAny_bind (wpAny_pure (wpAny_pure ?_))
    refine ⟨plainId_quiet F.excBase_ValueError.init.plain _, codeAny_builtin F.excBase_ValueError.initEntry ?_⟩
    refine PySem.W.exc_init_tree (cls := .ref C) (t0 := t2) (dv := none) (c2 := .none) (c3 := .none) (b4 := .bool false) ho3 hus fun h4 k4 hx4 ht4 => ?_
    have J := J3.write (t' := tk3) (x := a) (e := a) (o := exo a C none) (h' := h4) (by rw [ea1]; exact True.intro) (.inl rfl) k4 ⟨_, hx4⟩ (exo_ok hx4)
    have eu : upd H1 a (exo a C none) = H1 := by
      funext b
      by_cases hb : b = a
      · rw [hb, upd_same, ea1]
      · rw [upd_ne hb]
    rw [eu] at J
    exact ⟨σ, H1, J, qn⟩
  rw [hst] at key ⊢
  refine PySem.W.kxs_callWith (i := "ValueError.__init__") (x := a) (by show (false || (backTo cpos (starEach es X.env)).any (·.1)) = false; rw [hpl]; rfl) ?_
  exact PySem.Calls.evalArgs_plain key
end
end My

set_option Elab.async false
set_option linter.all false
set_option maxRecDepth 100000
set_option maxHeartbeats 4000000
/-! ### own errors: made, raised, caught, asked -/
namespace My
open PySem L2 NdefX
/-- __init__ of an error with one field: what it promises -/
def spErr1 (C : Addr) (f : Str) (P : V → Prop) : Sp := fun vs H Q _ => ∃ (a : Addr) (v : V), vs = [.ref a, v] ∧ P v ∧ H a = some (exo a C none) ∧ ∀ dx, H dx = none → dx ≠ a → Q .non (upd (upd H dx (exd dx [(f, v)])) a (exo a C (some dx)))
/-- .. with two fields -/
def spErr2 (C : Addr) (f g : Str) (P : V → V → Prop) : Sp := fun vs H Q _ => ∃ (a : Addr) (v u : V), vs = [.ref a, v, u] ∧ P v u ∧ H a = some (exo a C none) ∧ ∀ dx, H dx = none → dx ≠ a → Q .non (upd (upd (upd H dx (exd dx [(f, v)])) a (exo a C (some dx))) dx (exd dx [(g, u), (f, v)]))
theorem err_kp {H1 H2 : Hp} {a dx : Addr} {fs : List (Str × V)} (na : H1 a = none) (nd : H1 dx = none) (k : ∀ b, b ≠ a → b ≠ dx → H2 b = H1 b) : Kp [] H1 (upd (del H2 a) dx (.xd fs)) := fun b o _ e => by
  have h1 : b ≠ a := ne_of_none e na
  have h2 : b ≠ dx := ne_of_none e nd
  rw [upd_ne h2, del_ne h1, k b h1 h2]
  exact e
theorem err1_made {C : Addr} {f : Str} {P : V → Prop} {v : V} {H1 : Hp} {Q : XK} (hp : P v) (q : ∀ d H', H1 d = none → H' d = some (.xd [(f, v)]) → Kp [] H1 H' → Q (.ref C) (some d) H') :
    ([v] : List V).length ≤ 1000 ∧ ∀ a, H1 a = none → spErr1 C f P (.ref a :: ([v] ++ [])) (upd H1 a (exo a C none)) (fun v H2 => v = .non ∧ ∃ (d : Addr) (fs : List (Str × V)), H2 a = some (exo a C (some d)) ∧ H2 d = some (exd d fs) ∧ H1 d = none ∧ Q (.ref C) (some d) (upd (del H2 a) d (.xd fs))) (fun _ _ _ => False) := by
  refine ⟨by show 1 ≤ 1000; decide, fun a na => ⟨a, v, rfl, hp, upd_same, fun dx ndx hne => ?_⟩⟩
  rw [upd_ne hne] at ndx
  refine ⟨rfl, dx, _, upd_same, by rw [upd_ne hne]; exact upd_same, ndx, q dx _ ndx upd_same (err_kp na ndx fun b h1 h2 => ?_)⟩
  rw [upd_ne h1, upd_ne h2, upd_ne h1]
theorem err2_made {C : Addr} {f g : Str} {P : V → V → Prop} {v u : V} {H1 : Hp} {Q : XK} (hp : P v u) (q : ∀ d H', H1 d = none → H' d = some (.xd [(g, u), (f, v)]) → Kp [] H1 H' → Q (.ref C) (some d) H') :
    ([v, u] : List V).length ≤ 1000 ∧ ∀ a, H1 a = none → spErr2 C f g P (.ref a :: ([v, u] ++ [])) (upd H1 a (exo a C none)) (fun v H2 => v = .non ∧ ∃ (d : Addr) (fs : List (Str × V)), H2 a = some (exo a C (some d)) ∧ H2 d = some (exd d fs) ∧ H1 d = none ∧ Q (.ref C) (some d) (upd (del H2 a) d (.xd fs))) (fun _ _ _ => False) := by
  refine ⟨by show 2 ≤ 1000; decide, fun a na => ⟨a, v, u, rfl, hp, upd_same, fun dx ndx hne => ?_⟩⟩
  rw [upd_ne hne] at ndx
  refine ⟨rfl, dx, _, by rw [upd_ne hne.symm]; exact upd_same, upd_same, ndx, q dx _ ndx upd_same (err_kp na ndx fun b h1 h2 => ?_)⟩
  rw [upd_ne h2, upd_ne h1, upd_ne h2, upd_ne h1]
/-- what the written part says of an error class that is caught and asked -/
structure KitC (K : PySem.W.Frag) (C : Addr) : Prop where
  cl : (PySem.W.clsIn K C).isSome = true
  ga : PySem.W.findIn K (.ref C) "__getattribute__" = some (some (.builtin "BaseException.__getattribute__"))
  gg : PySem.W.findIn K (.ref C) "__getattr__" = some none
  bx : PySem.W.subIn K (.ref C) (.type "BaseException") = some true
  hc : PySem.W.findIn K (.ref C) "__class__" = some (some (.builtin "object.__class__"))
  hn : PySem.W.specialIn K (.builtin "object.__class__") "__get__" = some (some (.builtin "getset_descriptor.__get__"))
  ht : PySem.W.takesIn K (.builtin "object.__class__") = some true
  ob : PySem.W.mroIn K C (.type "object") = some true
/-- isinstance(e, c), e the error that the suite holds -/
def rIsX (K : PySem.W.Frag) (a : Addr) (cls : Value) (d : Option Addr) : List V → Hp → VK → Prop := fun xs H Q => ∃ (c : V) (cv : Value) (b : Bool) (D dd : Addr) (fs : List (Str × V)), xs = [.ref a, c] ∧ (∀ u, RelV c u → u = cv) ∧ cls = .ref D ∧ d = some dd ∧ H dd = some (.xd fs) ∧ KitC K D ∧ PySem.W.kitOne K (.ref D) cv = some b ∧ Q (.bl b) H
/-- .. a tuple of classes that was just laid -/
def rIsXT (K : PySem.W.Frag) (a : Addr) (cls : Value) (d : Option Addr) : List V → Hp → VK → Prop := fun xs H Q => ∃ (tp : Addr) (cs : List V) (us : List Value) (b : Bool) (D dd : Addr) (fs : List (Str × V)), xs = [.ref a, .ref tp] ∧ H tp = some (.tup cs) ∧ Paired ClsV cs us ∧ cls = .ref D ∧ d = some dd ∧ H dd = some (.xd fs) ∧ KitC K D ∧ PySem.W.kitAny K (.ref D) us = some b ∧ Q (.bl b) H
section
variable {X : Cx} {a : Addr} {oe : Obj} {cls : Value} {d : Option Addr} {pn : List (Addr × Obj)}
theorem inst_x {pins : List (Addr × Obj)} {s : Shared} {σ : L2.St} {H : Hp} {D dd : Addr} {fs : List (Str × V)} (I : Inv (X.suite a ((a, oe) :: pn)) pins σ H s) (hz : Zc (.ref D) (some dd) oe) (hf : ∃ vs, oe.data = .fields vs) (e : H dd = some (.xd fs)) : ∃ od, PySem.W.InstAt s.heap a oe D (some od) := by
  obtain ⟨ha, _⟩ := I.pin (a, oe) (List.mem_append_left _ List.mem_cons_self)
  obtain ⟨vs, hv⟩ := hf
  obtain ⟨mA, hns, _⟩ := (show ObjOk X.prog X.w H s.heap dd (.xd fs) from I.hok dd _ e)
  obtain ⟨od, ho, _⟩ := lookIn_ns hns
  exact ⟨od, ha, hz.1, by unfold PySem.W.notCls; rw [hv] <;> rfl, by rw [hz.2]; exact ho⟩
theorem call_isX (hz : Zc cls d oe) (hf : ∃ vs, oe.data = .fields vs) : CallR (X.suite a ((a, oe) :: pn)) (.builtin "isinstance") (rIsX X.K a cls d) := by
  intro pins s σ H xs us Q I r h
  obtain ⟨c, cv, b, D, dd, fs, rfl, hcv, rfl, rfl, ed, T, e, q⟩ := h
  obtain ⟨u1, u2, rfl, r1, r2⟩ := vals2 r
  cases (show u1 = Value.ref a from r1)
  cases hcv _ r2
  obtain ⟨od, J⟩ := inst_x I hz hf ed
  exact PySem.W.kia_one (PySem.W.kitx_exc T.cl T.ga T.gg T.bx T.hc T.hn T.ht T.ob) I.kIn J e (fun z => nomatch z) fun tk => ⟨.bl b, H, I.tok tk, rfl, q⟩
theorem call_isXT (hz : Zc cls d oe) (hf : ∃ vs, oe.data = .fields vs) : CallR (X.suite a ((a, oe) :: pn)) (.builtin "isinstance") (rIsXT X.K a cls d) := by
  intro pins s σ H xs us Q I r h
  obtain ⟨tp, cs, ws, b, D, dd, fs, rfl, hT, k, rfl, rfl, ed, T, e, q⟩ := h
  obtain ⟨u1, u2, rfl, r1, r2⟩ := vals2 r
  cases (show u1 = Value.ref a from r1)
  cases (show u2 = Value.ref tp from r2)
  obtain ⟨od, J⟩ := inst_x I hz hf ed
  obtain ⟨_, its, rv, o, h1, h2, n, h3⟩ := (show ObjOk X.prog X.w H s.heap tp (.tup cs) from I.hok tp _ hT)
  cases ClsV.all k rv
  obtain ⟨oc, od2, dt, sl⟩ := o
  simp only at h2 h3
  subst h2 h3
  exact PySem.W.kia_tup (PySem.W.kitx_exc T.cl T.ga T.gg T.bx T.hc T.hn T.ht T.ob) I.kIn J h1 e (fun z => nomatch z) fun tk => ⟨.bl b, H, I.tok tk, rfl, q⟩
end
end My

set_option Elab.async false
set_option linter.all false
set_option maxRecDepth 100000
set_option maxHeartbeats 4000000
/-! ### operators, in, len, list of instances of an own class that define them -/
namespace My
open PySem PySem.Spec PyProof.Rows L2
section
variable {X : Cx} {CX : CXT} {pins : List (Addr × Obj)} {σ : L2.St} {H : Hp} {s : Shared} {C g a : Addr} {fd : FuncData} {ps : List Str} {sp : Sp} {E : XK} {k : Nat} {A1 : Around}
theorem inst_of {dx : Addr} {fs : List (Str × V)} (I : Inv X pins σ H s) (ha : H a = some (.ins C dx fs)) : ∃ ox od, PySem.W.InstAt s.heap a ox C (some od) := by
  obtain ⟨mA, J, _⟩ := ins_get I.hok ha
  obtain ⟨od, J', _⟩ := J.look
  exact ⟨_, od, J'⟩
theorem env_under (sb : Sub X k A1) (I : Inv X pins σ H s) : Env0 X.prog X.w X.K X.mg X.base A1 X.stack s H := by
  obtain ⟨f1, f2, f3, f4, f5, f6, f7, f8⟩ := I.env0
  exact ⟨(sb.fr).trans f1, f2, f3, f4, f5, f6, f7, f8⟩
/-- a def of the class runs somewhere below the body -/
theorem run_under {Q : VK} {us : List Value} {vs : List V} (F : FnOk X.prog X.w X.K X.mg X.base CX k g fd ps sp) (sb : Sub X k A1) (hb : Binds X.K fd ps []) (hx : Passes CX X E) (I : Inv X pins σ H s) (r : Vals vs us) (h : sp vs H Q E) :
    wpAny (model X.prog X.w) A1 (call (.ref g) us) (EP X pins σ Q) X.xe s := by
  have len := F.len _ _ _ _ h
  have bnd := hb s us I.kIn (by rw [List.append_nil, ← r.length]; exact len)
  rw [List.append_nil] at bnd
  refine wpAny_call (codeAny_mono (F.run A1 X.stack s H ⟨us, []⟩ us vs Q E sb.room (env_under sb I) bnd r h) ?_)
  rintro (e | fl) s' z
  · exact hx pins σ H s e s' I z
  · cases fl <;> first | exact I.after z | exact z.elim
/-- x op y, both instances of the class at C -/
def rBinO (C : Addr) (sp : Sp) (E : XK) : R2 := fun x y H Q => ∃ (a dx : Addr) (fs : List (Str × V)) (b dy : Addr) (gs : List (Str × V)), x = .ref a ∧ y = .ref b ∧ H a = some (.ins C dx fs) ∧ H b = some (.ins C dy gs) ∧ sp [.ref a, .ref b] H Q E
/-- what stands of an operator's def -/
structure BinC (K : PySem.W.Frag) (C g : Addr) (op : Operator) : Prop where
  one : PySem.W.selfFirst K C = true
  at_ : PySem.W.findIn K (.ref C) (PySem.dunder op.info.2) = some (some (.ref g))
  fn : PySem.W.isFn K (.ref g) = true
theorem sub_here (hr : Room k X.A) : Sub X k X.A := ⟨hr, rfl⟩
theorem op_binO {op : Operator} (c : BinC X.K C g op) (F : FnOk X.prog X.w X.K X.mg X.base CX k g fd ps sp) (hb : Binds X.K fd ps []) (hr : Room k X.A) (hx : Passes CX X E) : OpR X (binaryOp op) (rBinO C sp E) := by
  rintro pins s σ H x y v u Q I rx ry ⟨a, dx, fs, b, dy, gs, rfl, rfl, ha, hb', q⟩
  cases rx
  cases ry
  obtain ⟨ox, od, J⟩ := inst_of I ha
  obtain ⟨oy, ody, J'⟩ := inst_of I hb'
  obtain ⟨m, hF⟩ := I.fr
  refine PySem.W.binop_K hF I.ok.mod.kin J J'.type c.one c.at_ c.fn ?_
  refine thn (run_under (us := [.ref a, .ref b]) (vs := [.ref a, .ref b]) F (sub_here hr) hb hx I (.cons rfl (.cons rfl .nil)) q) ?_
  rintro w s' ⟨z, H', I', rz, qz⟩
  exact SlX.cmpback rz ⟨z, H', I', rz, qz⟩
/-- y in x, x an instance of the class at C: its __contains__ gives a bool -/
def rInO (C : Addr) (sp : Sp) (E : XK) (neg : Bool) : R2 := fun y x H Q => ∃ (a dx : Addr) (fs : List (Str × V)), x = .ref a ∧ H a = some (.ins C dx fs) ∧ sp [.ref a, y] H (fun v H' => ∃ b, v = .bl b ∧ Q (.bl (if neg then !b else b)) H') E
structure InC (K : PySem.W.Frag) (C g : Addr) : Prop where
  at_ : PySem.W.findIn K (.ref C) "__contains__" = some (some (.ref g))
  fn : PySem.W.isFn K (.ref g) = true
theorem op_inO (c : InC X.K C g) (F : FnOk X.prog X.w X.K X.mg X.base CX k g fd ps sp) (hb : Binds X.K fd ps []) (hr : Room k X.A) (hx : Passes CX X E) : OpR X (compareOp .In) (rInO C sp E false) := by
  rintro pins s σ H y x u v Q I ry rx ⟨a, dx, fs, rfl, ha, q⟩
  cases rx
  obtain ⟨ox, od, J⟩ := inst_of I ha
  obtain ⟨m, hF⟩ := I.fr
  refine PySem.W.in_K hF I.ok.mod.kin J c.at_ c.fn ?_
  refine thn (run_under (us := [.ref a, u]) (vs := [.ref a, y]) F (sub_here hr) hb hx I (.cons rfl (.cons ry .nil)) q) ?_
  rintro w s' ⟨z, H', I', rz, b, rfl, qz⟩
  cases rz
  exact wpAny_pure ⟨.bl b, H', I', rfl, qz⟩
theorem op_notInO (c : InC X.K C g) (F : FnOk X.prog X.w X.K X.mg X.base CX k g fd ps sp) (hb : Binds X.K fd ps []) (hr : Room k X.A) (hx : Passes CX X E) : OpR X (compareOp .NotIn) (rInO C sp E true) := by
  rintro pins s σ H y x u v Q I ry rx ⟨a, dx, fs, rfl, ha, q⟩
  cases rx
  obtain ⟨ox, od, J⟩ := inst_of I ha
  obtain ⟨m, hF⟩ := I.fr
  refine PySem.W.notIn_K hF I.ok.mod.kin J c.at_ c.fn ?_
  refine thn (run_under (us := [.ref a, u]) (vs := [.ref a, y]) F (sub_here hr) hb hx I (.cons rfl (.cons ry .nil)) q) ?_
  rintro w s' ⟨z, H', I', rz, b, rfl, qz⟩
  cases rz
  exact wpAny_pure ⟨.bl (!b), H', I', rfl, qz⟩
/-- len(x) -/
structure LenC (K : PySem.W.Frag) (C g : Addr) : Prop where
  at_ : PySem.W.findIn K (.ref C) "__len__" = some (some (.ref g))
  fn : PySem.W.isFn K (.ref g) = true
theorem len_under {R : Value → Shared → Prop} {Q1 : Nat → Hp → Prop} {dx : Addr} {fs : List (Str × V)} (c : LenC X.K C g) (F : FnOk X.prog X.w X.K X.mg X.base CX k g fd ps sp) (hb : Binds X.K fd ps []) (sb : Sub X (k + 1) A1) (hx : Passes CX X E) (I : Inv X pins σ H s)
    (ha : H a = some (.ins C dx fs)) (h : sp [.ref a] H (fun v H' => ∃ n : Nat, v = .int n ∧ n ≤ sizeLine ∧ Q1 n H') E) (hR : ∀ (n : Nat) H' s' t, n ≤ sizeLine → Inv X pins σ H' s' → Q1 n H' → R (.int n t) s') : wpAny (model X.prog X.w) A1 (call (.builtin "len") [.ref a]) R X.xe s := by
  obtain ⟨ox, od, J⟩ := inst_of I ha
  refine Calls.call_function_entry kind_len plain_len entry_len (args_len1 _) ?_
  unfold Builtin.«len»
  refine wpAny_bind (m := oneArg "len" _) (wpAny_pure ?_)
  refine wpAny_bind (PySem.W.special_fn I.kIn J c.at_ (beq_iff_eq.mp c.fn) ?_)
  refine thn (run_under (us := [.ref a]) (vs := [.ref a]) F sb.in1 hb hx I (.cons rfl .nil) h) ?_
  rintro w s' ⟨z, H', I', rz, n, rfl, hn, hq⟩
  obtain ⟨t, rfl⟩ := rz
  have h63 : ((n : Int)) < 2 ^ 63 := by
    rw [sizeLine_eq] at hn
    omega
  refine wpAny_bind (wpAny_holding (wpAny_pure ?_))
  refine wpAny_bind (wpAny_letGo ?_)
  refine wpAny_ite_false (decide_eq_false (show ¬ ((n : Int) < 0) by omega)) ?_
  refine wpAny_ite_false (decide_eq_false (show ¬ ((n : Int) ≥ 2 ^ 63) by omega)) ?_
  exact wpAny_bind (wpAny_mkInt (wpAny_pure ⟨_, rfl, hR n H' _ _ hn (I'.tok _) hq⟩))
def rLenO (C : Addr) (sp : Sp) (E : XK) : List V → Hp → VK → Prop := fun xs H Q => ∃ (a dx : Addr) (fs : List (Str × V)), xs = [.ref a] ∧ H a = some (.ins C dx fs) ∧ sp [.ref a] H (fun v H' => ∃ n : Nat, v = .int n ∧ n ≤ sizeLine ∧ Q (.int n) H') E
theorem call_lenO (c : LenC X.K C g) (F : FnOk X.prog X.w X.K X.mg X.base CX k g fd ps sp) (hb : Binds X.K fd ps []) (hr : Room (k + 1) X.A) (hx : Passes CX X E) : CallR X (.builtin "len") (rLenO C sp E) := by
  rintro pins s σ H xs us Q I r ⟨a, dx, fs, rfl, ha, q⟩
  obtain ⟨u, rfl, ru⟩ := r.one
  cases ru
  exact len_under (Q1 := fun n H' => Q (.int n) H') c F hb (sub_here hr) hx I ha q fun n H' s' t _ I' hq => ⟨.int n, H', I', ⟨t, rfl⟩, hq⟩
/-- something that is no more looked at -/
def junk (q : Addr) : HO := .ext fun h => ∃ o, h.get? q = some o
theorem junk_ok {P : Program} {w : World} {H : Hp} {h : Heap} {q : Addr} {o : Obj} (e : h.get? q = some o) : ObjOk P w H h q (junk q) := ⟨⟨_, e⟩, ⟨_, e⟩, fun _ _ ⟨u, z⟩ k => ⟨u, k _ z⟩⟩
/-- the class's __iter__ gives iter(l) of a list l, and it has a __len__ -/
structure IterC (K : PySem.W.Frag) (C gi gl : Addr) : Prop where
  it : PySem.W.findIn K (.ref C) "__iter__" = some (some (.ref gi))
  itF : PySem.W.isFn K (.ref gi) = true
  ln : LenC K C gl
/-- list(x) -/
def rListO (K : PySem.W.Frag) (C : Addr) (si sl : Sp) (E : XK) : List V → Hp → VK → Prop := fun xs H Q => ∃ (a dx : Addr) (fs : List (Str × V)), xs = [.ref a] ∧ H a = some (.ins C dx fs) ∧ ∀ q, H q = none →
  si [.ref a] (upd H q (.lst [])) (fun v H1 => ∃ (l it : Addr) (zs : List V), v = .ref it ∧ H1 a = some (.ins C dx fs) ∧ H1 it = some (ItO l it 0) ∧ SqL K H1 l zs ∧ l ≠ q ∧ l ≠ it ∧ H1 q = some (.lst []) ∧
    sl [.ref a] H1 (fun v H2 => ∃ n : Nat, v = .int n ∧ n ≤ sizeLine ∧ H2 it = some (ItO l it 0) ∧ SqL K H2 l zs ∧ H2 q = some (.lst []) ∧ Q (.ref q) (upd (upd H2 it (junk it)) q (.lst zs))) E) E
/-- .. where nothing is raised -/
theorem run_under0 {Q : VK} {us : List Value} {vs : List V} {Ex : Value → Shared → Prop} (F : FnOk X.prog X.w X.K X.mg X.base CX0 k g fd ps sp) (sb : Sub X k A1) (hb : Binds X.K fd ps []) (I : Inv X pins σ H s) (r : Vals vs us) (h : sp vs H Q E) :
    wpAny (model X.prog X.w) A1 (call (.ref g) us) (EP X pins σ Q) Ex s := by
  have len := F.len _ _ _ _ h
  have bnd := hb s us I.kIn (by rw [List.append_nil, ← r.length]; exact len)
  rw [List.append_nil] at bnd
  refine wpAny_call (codeAny_mono (F.run A1 X.stack s H ⟨us, []⟩ us vs Q E sb.room (env_under sb I) bnd r h) ?_)
  rintro (e | fl) s' z
  · exact False.elim z
  · cases fl <;> first | exact I.after z | exact z.elim
theorem len_under0 {R : Value → Shared → Prop} {Ex : Value → Shared → Prop} {Q1 : Nat → Hp → Prop} {dx : Addr} {fs : List (Str × V)} (c : LenC X.K C g) (F : FnOk X.prog X.w X.K X.mg X.base CX0 k g fd ps sp) (hb : Binds X.K fd ps []) (sb : Sub X (k + 1) A1) (I : Inv X pins σ H s)
    (ha : H a = some (.ins C dx fs)) (h : sp [.ref a] H (fun v H' => ∃ n : Nat, v = .int n ∧ n ≤ sizeLine ∧ Q1 n H') E) (hR : ∀ (n : Nat) H' s' t, n ≤ sizeLine → Inv X pins σ H' s' → Q1 n H' → R (.int n t) s') : wpAny (model X.prog X.w) A1 (call (.builtin "len") [.ref a]) R Ex s := by
  obtain ⟨ox, od, J⟩ := inst_of I ha
  refine Calls.call_function_entry kind_len plain_len entry_len (args_len1 _) ?_
  unfold Builtin.«len»
  refine wpAny_bind (m := oneArg "len" _) (wpAny_pure ?_)
  refine wpAny_bind (PySem.W.special_fn I.kIn J c.at_ (beq_iff_eq.mp c.fn) ?_)
  refine thn (run_under0 (us := [.ref a]) (vs := [.ref a]) F sb.in1 hb I (.cons rfl .nil) h) ?_
  rintro w s' ⟨z, H', I', rz, n, rfl, hn, hq⟩
  obtain ⟨t, rfl⟩ := rz
  have h63 : ((n : Int)) < 2 ^ 63 := by
    rw [sizeLine_eq] at hn
    omega
  refine wpAny_bind (wpAny_holding (wpAny_pure ?_))
  refine wpAny_bind (wpAny_letGo ?_)
  refine wpAny_ite_false (decide_eq_false (show ¬ ((n : Int) < 0) by omega)) ?_
  refine wpAny_ite_false (decide_eq_false (show ¬ ((n : Int) ≥ 2 ^ 63) by omega)) ?_
  exact wpAny_bind (wpAny_mkInt (wpAny_pure ⟨_, rfl, hR n H' _ _ hn (I'.tok _) hq⟩))
theorem hint_own {Q : Bool → Shared → Prop} {Ex : Value → Shared → Prop} {Q1 : Nat → Hp → Prop} {dx : Addr} {fs : List (Str × V)} (c : LenC X.K C g) (F : FnOk X.prog X.w X.K X.mg X.base CX0 k g fd ps sp) (hb : Binds X.K fd ps []) (sb : Sub X (k + 1) A1) (I : Inv X pins σ H s)
    (ha : H a = some (.ins C dx fs)) (h : sp [.ref a] H (fun v H' => ∃ n : Nat, v = .int n ∧ n ≤ sizeLine ∧ Q1 n H') E) (hR : ∀ b n H' s', Inv X pins σ H' s' → Q1 n H' → Q b s') : wpAny (model X.prog X.w) A1 (Builtin.List.listLengthHint (.ref a)) Q Ex s := by
  obtain ⟨ox, od, J⟩ := inst_of I ha
  unfold Builtin.List.listLengthHint
  refine wpAny_bind (wpAny_bind (J.type.here ((PySem.W.looks_findIn I.kIn c.at_).here ?_)))
  refine PySem.W.KFB.if_not rfl ?_
  refine PySem.W.KFB.if_so rfl ?_
  refine wpAny_bind (wpAny_rule ?_)
  refine wpAny_bind (wpAny_attempt (len_under0 c F hb sb I ha h ?_))
  intro n H' s' t hn I' hq
  show wpAny _ _ (pure (some (n : Int)) >>= _) _ _ _
  refine wpAny_bind (wpAny_pure ?_)
  have hl : Builtin.List.listTooLong ((n : Int).toNat) = false := by
    rw [Int.toNat_natCast]; exact notLongL hn
  refine PySem.W.KFB.if_not hl ?_
  exact wpAny_pure (hR _ n H' s' I' hq)
/-! ### the list's iterator, drawn to its end -/
theorem py_item {it l : Addr} {i : Nat} {items : Array Value} {v : Value} {prog : Program} {w : World} {Q : Option Value → Shared → Prop} {Ex : Value → Shared → Prop} (ho : s.heap.get? it = some (GNX.itObj l i)) (hl : s.heap.IsList l items) (hv : items[i]? = some v)
    (hQ : ∀ h', h'.get? it = some (GNX.itObj l (i + 1)) → (∀ b o, b ≠ it → s.heap.get? b = some o → h'.get? b = some o) → Q (some v) { s with heap := h' }) : wpAny (model prog w) A1 (pyNext (.ref it)) Q Ex s := by
  have hT : s.TypeIs (.ref it) "list_iterator" := ⟨_, ho, rfl⟩
  unfold pyNext
  refine wpAny_bind (wpAny_attempt (wpAny_callSpecial?_slot (name := Str.ofString "__next__") hT slot_listiter_next (wpAny_call_entry slot_listiter_next hT entry_listiter_next (GNX.next_item ho hl hv ?_) (args_listiter_next _))))
  intro h' e sb
  exact wpAny_pure (hQ h' e fun b o hb eb => (sb.2 b hb).trans eb)
theorem py_end {it l : Addr} {i : Nat} {items : Array Value} {prog : Program} {w : World} {Q : Option Value → Shared → Prop} {Ex : Value → Shared → Prop} (hh : A1.handled = none) (ho : s.heap.get? it = some (GNX.itObj l i)) (hl : s.heap.IsList l items) (hv : items[i]? = none)
    (hQ : ∀ h', h'.get? it = some (GNX.itEnd i) → (∀ b o, b ≠ it → s.heap.get? b = some o → h'.get? b = some o) → Q none { s with heap := h' }) : wpAny (model prog w) A1 (pyNext (.ref it)) Q Ex s := by
  have hT : s.TypeIs (.ref it) "list_iterator" := ⟨_, ho, rfl⟩
  unfold pyNext
  refine wpAny_bind (wpAny_attempt (wpAny_callSpecial?_slot (name := Str.ofString "__next__") hT slot_listiter_next (wpAny_call_entry slot_listiter_next hT entry_listiter_next (GNX.next_end hh ho hl hv ?_) (args_listiter_next _))))
  intro h1 h' e vs e1 sb k1 ne he hv'
  refine wpAny_bind (wpAny_isInstance (T := "StopIteration") (b := true) ⟨_, he, rfl⟩ PySem.isSubtype_stop ?_)
  exact wpAny_pure (hQ h' (k1 _ _ e1) fun b o hb eb => k1 _ _ ((sb.2 b hb).trans eb))
theorem same_upd {H : Hp} {q : Addr} {o : HO} (e : H q = some o) : upd H q o = H := by
  funext b
  by_cases z : b = q
  · rw [z, upd_same, e]
  · rw [upd_ne z]
theorem take_next' {α : Type} {xs : List α} {i : Nat} {x : α} (h : xs[i]? = some x) : xs.take (i + 1) = xs.take i ++ [x] := by
  rw [List.take_add_one, h]; rfl
/-- the loop that fills the list at q -/
theorem drain {q l it : Addr} {zs : List V} {F : Hp} {R : Result → Shared → Prop} (hh : A1.in1.handled = none) (lit : l ≠ it) (lq : l ≠ q) (hne : it ≠ q) (hdone : ∀ s', Inv X pins σ F s' → R (.ok (.ret .none)) s') :
    ∀ (n i : Nat) (H1 : Hp) (s1 : Shared), zs.length - i = n → i ≤ zs.length → Inv X pins σ H1 s1 → H1 it = some (ItO l it i) → SqL X.K H1 l zs → H1 q = some (.lst (zs.take i)) → upd (upd H1 it (junk it)) q (.lst zs) = F →
      codeAny (model X.prog X.w) A1 (.builtin "list.extend.loop" ⟨[.ref q, .ref it, .none], []⟩) R s1 := by
  intro n
  induction n with
  | zero =>
    intro i H1 s1 hn hi I hit hl hq hF
    obtain ⟨its, rv, pl, hz⟩ := I.list hl
    have hlen := rv.length
    have nope : its.toArray[i]? = none := by
      rw [List.getElem?_toArray]
      exact List.getElem?_eq_none (by omega)
    refine codeAny_builtin PySem.F.entry_extend_loop ?_
    rw [Around.under_plainId PySem.F.plain_extend_loop _]
    refine wpAny_bind (m := pyNext (.ref it)) (py_end hh (itO_get I hit) pl.isList nope fun h' he hk => ?_)
    have J : Inv X pins σ (upd H1 it (junk it)) { s1 with heap := h' } := I.write (t' := s1.toks) (x := it) (e := it) (by rw [hit]; exact True.intro) (.inl rfl) (fun b u hb e => hk b u hb e) ⟨_, he⟩ (junk_ok he)
    have e : upd H1 it (junk it) = F := by
      rw [← hF]
      refine (same_upd ?_).symm
      rw [upd_ne hne.symm, hq, List.take_of_length_le (by omega)]
    rw [e] at J
    exact wpAny_pure (hdone _ J)
  | succ n ih =>
    intro i H1 s1 hn hi I hit hl hq hF
    obtain ⟨its, rv, pl, hz⟩ := I.list hl
    have hlen := rv.length
    have hx : zs[i]? = some zs[i] := List.getElem?_eq_getElem (by omega)
    obtain ⟨u, hu, ru⟩ := rv.get hx
    refine codeAny_builtin PySem.F.entry_extend_loop ?_
    rw [Around.under_plainId PySem.F.plain_extend_loop _]
    refine wpAny_bind (m := pyNext (.ref it)) (py_item (itO_get I hit) pl.isList (v := u) (by simpa using hu) fun h' he hk => ?_)
    have J : Inv X pins σ (upd H1 it (ItO l it (i + 1))) { s1 with heap := h' } := I.write (t' := s1.toks) (x := it) (e := it) (by rw [hit]; exact True.intro) (.inl rfl) (fun b u hb e => hk b u hb e) ⟨_, he⟩ (itO_ok he)
    have hq' : (upd H1 it (ItO l it (i + 1))) q = some (.lst (zs.take i)) := by rw [upd_ne hne.symm]; exact hq
    obtain ⟨_, ys, c, r2, hl2, e2⟩ := J.lstM hq'
    have hy : ys.length = i := by rw [← hl2, List.length_take]; omega
    refine wpAny_bind (m := updateSeq q (·.push u)) (wpAny_updateSeq e2 rfl (wpAny_pure ⟨plainId_quiet PySem.F.plain_extend_loop _, ?_⟩) (by rw [List.size_toArray]; omega) (by rw [Array.size_push, List.size_toArray]; omega))
    have J2 := J.lset (f := (·.push u)) (its' := ys ++ [u]) (ys := zs.take (i + 1)) (t' := s1.toks) hq' e2 (by simp) (by rw [take_next' hx]; exact r2.append (.cons ru .nil)) (by rw [List.length_take]; omega)
    refine ih (i + 1) _ _ (by omega) (by omega) J2 ?_ ?_ upd_same ?_
    · rw [upd_ne hne]; exact upd_same
    · exact (((Kp.refl [it, q] H1).put (by simp)).put (by simp)).ls (by simp [lit, lq]) hl
    · rw [← hF]
      funext b
      by_cases z : b = q
      · rw [z, upd_same, upd_same]
      · rw [upd_ne z, upd_ne z]
        by_cases y : b = it
        · rw [y, upd_same, upd_same]
        · rw [upd_ne y, upd_ne y, upd_ne z, upd_ne y]
theorem call_listO {gi gl : Addr} {fdi fdl : FuncData} {psi psl : List Str} {si sl : Sp} {ki kl : Nat} (c : IterC X.K C gi gl) (Fi : FnOk X.prog X.w X.K X.mg X.base CX0 ki gi fdi psi si) (bi : Binds X.K fdi psi []) (Fl : FnOk X.prog X.w X.K X.mg X.base CX0 kl gl fdl psl sl) (bl : Binds X.K fdl psl [])
    (hr : Room (max ki (kl + 1) + 2) X.A) (hcalm : X.calm = true := by rfl) : CallR X (.type "list") (rListO X.K C si sl E) := by
  rintro pins s σ H xs us Q I rv ⟨a, dx, fs, rfl, ha, hq⟩
  obtain ⟨u, rfl, ru⟩ := rv.one
  cases ru
  have sb0 : Sub X (max ki (kl + 1)) X.A.in1.in1 := (sub_here hr).in1.in1
  have hh : X.A.handled = none := I.ok.hd hcalm
  refine callType_codes (Q₁ := fun obj s₁ => obj = .ref s.heap.objs.size ∧ s₁ = { s with heap := s.heap.push { cls := .type "list", data := .seq #[] } }) PySem.F.called_list (PySem.F.typeCall_list_1 _) PySem.F.entry_list_init (code_list_new _ ⟨rfl, rfl⟩) ?_
  rintro obj s₁ ⟨rfl, rfl⟩
  have hS : (s.heap.push { cls := .type "list", data := .seq #[] }).get? s.heap.objs.size = some { cls := .type "list", data := .seq #[] } := Heap.get?_push_size _ rfl
  refine ⟨⟨_, hS, rfl⟩, PySem.F.args_list_init_2 _ _, ?_⟩
  have fr : H s.heap.objs.size = none := I.hok.fresh (Nat.le_refl _)
  have todo := hq _ fr
  generalize hqq : s.heap.objs.size = q at *
  have I1 : Inv X pins σ (upd H q (.lst [])) { s with heap := s.heap.push { cls := .type "list", data := .seq #[] } } := by
    rw [← hqq]
    exact I.lnew (its := []) (t' := s.toks) .nil (Nat.zero_le _)
  show wpAny _ _ (Builtin.List.listItems (.ref q) >>= fun old => Builtin.List.listUpdate (.ref q) (fun _ => #[]) >>= fun _ => letGo old.toList.reverse >>= fun _ => Builtin.List.listExtendWith (.ref q) (.ref a) .none) _ _ _
  refine wpAny_bind ?_
  unfold Builtin.List.listItems
  refine wpAny_bind (wpAny_seqItems hS rfl (wpAny_pure ?_))
  refine wpAny_bind (m := updateSeq q fun _ => #[]) (wpAny_updateSeq hS rfl ?_)
  have I2 := I1.lset (f := fun _ => #[]) (its := []) (its' := []) (ys := []) (t' := s.toks) upd_same hS rfl .nil (Nat.zero_le _)
  rw [upd_upd] at I2
  refine wpAny_bind (wpAny_letGo ?_)
  have ha2 : upd H q (.lst []) a = some (.ins C dx fs) := by rw [upd_ne (ne_of_none ha fr)]; exact ha
  obtain ⟨ox, od, J⟩ := inst_of I2 ha2
  obtain ⟨m0, hF⟩ := I2.fr
  have naq : a ≠ q := ne_of_none ha fr
  unfold Builtin.List.listExtendWith
  refine wpAny_bind (J.type.here ?_)
  have h1 : Builtin.List.listSameRef (.ref q) (.ref a) = false := beq_eq_false_iff_ne.mpr naq.symm
  refine PySem.W.KFB.if_not (by rw [h1]; rfl) ?_
  refine wpAny_bind (PySem.W.owit_iter hF I2.ok.mod.kin J c.it c.itF ?_)
  refine thn (run_under0 (us := [.ref a]) (vs := [.ref a]) Fi (sb0.mono (Nat.le_max_left _ _)) bi I2 (.cons rfl .nil) todo) ?_
  rintro w s2 ⟨z, H1, I3, rz, l, it, zs, rfl, ha3, hit, hl, lq, lit, hq3, hsl⟩
  cases rz
  unfold PySem.W.OwitIt
  have hT : s2.TypeIs (.ref it) "list_iterator" := ⟨_, itO_get I3 hit, rfl⟩
  refine wpAny_specialOf (name := Str.ofString "__next__") hT slot_listiter_next.lookup ?_
  refine wpAny_bind (wpAny_holding (hint_own c.ln Fl bl (sb0.mono (Nat.le_max_right _ _)) I3 ha3 hsl ?_))
  rintro room n H2 s3 I4 ⟨hit4, hl4, hq4, qend⟩
  have hne : it ≠ q := ne_of hit4 hq4 (fun z => by cases z)
  have fin : ∀ s4, Inv X pins σ H2 s4 → codeAny (model X.prog X.w) X.A.in1 (.builtin "list.extend.loop" ⟨[.ref q, .ref it, .none], []⟩) (wants (fun r s₂ => r = .none ∧ EP X pins σ Q (.ref q) s₂) X.xe) s4 := fun s4 I5 =>
    drain (A1 := X.A.in1) (F := upd (upd H2 it (junk it)) q (.lst zs)) (by simp [hh]) lit lq hne (fun s' I6 => ⟨rfl, .ref q, _, I6, rfl, qend⟩) _ 0 H2 s4 rfl (Nat.zero_le _) I5 hit4 hl4 (by rw [List.take_zero]; exact hq4) rfl
  refine wpAny_ite_split (fun _ => ?_) (fun _ => wpAny_pure ⟨plainId_quiet PySem.F.plain_extend_loop _, fin s3 I4⟩)
  refine wpAny_bind (wpAny_rule (wpAny_bind ?_))
  obtain ⟨_, its, k4, r4, hl5, e4⟩ := I4.lstM hq4
  cases r4
  refine wpAny_bind (m := updateSeq q (·.push .none)) (wpAny_updateSeq e4 rfl ?_)
  have I5 := I4.lset (f := (·.push Value.none)) (its' := [Value.none]) (ys := [.non]) (t' := s3.toks) hq4 e4 (by simp) (.cons rfl .nil) (by rw [List.length_singleton, sizeLine_eq]; decide)
  obtain ⟨_, its5, k5, r5, hl6, e5⟩ := I5.lstM upd_same
  obtain ⟨u5, rfl, ru5⟩ := r5.one
  refine wpAny_updateSeq (a := q) (f := (·.pop)) e5 rfl ?_ (by show 1 ≤ sizeLine; rw [sizeLine_eq]; decide) (by show 0 ≤ sizeLine + 1; exact Nat.zero_le _)
  have I6 := I5.lset (f := (·.pop)) (its := [u5]) (its' := []) (ys := []) (t' := s3.toks) upd_same e5 (by rfl) .nil (Nat.zero_le _)
  rw [upd_upd, same_upd hq4] at I6
  exact wpAny_pure ⟨plainId_quiet PySem.F.plain_extend_loop _, fin _ I6⟩
end
/-! ### a static method, called by its class's name -/
structure StaC (K : PySem.W.Frag) (C : Addr) (mc : Value) (m : Str) (p g : Addr) : Prop where
  rd : PySem.W.readsIn K C mc = true
  ga : PySem.W.specialIn K (.ref C) "__getattribute__" = some (some (.builtin "type.__getattribute__"))
  at_ : PySem.W.findCls K (.ref C) mc m = some (.get (.builtin "staticmethod.__get__") (.ref p) .none (.ref C))
  rc : ∃ rest, PySem.W.recIn K p "staticmethod" = some (.ref g :: rest)
  kp : PySem.W.keepIn K (.ref g) = true
def tSta (C : Addr) (sp : Sp) (dvs : List V) (E : XK) (ta : TE) (t : TA) : TE := fun σ H Q => ta σ H fun x H1 => x = .ref C ∧ t σ H1 fun vs H2 => sp (vs ++ dvs) H2 Q E
section
variable {X : Cx} {CX : CXT} {C p g : Addr} {mc : Value} {m : Str} {fd : FuncData} {ps : List Str} {sp : Sp} {E : XK} {k : Nat} {o e : Expr} {es : List Expr} {ta : TE} {t : TA} {apos pos : Pos} {dvs : List V} {ds : List Value}
theorem pe_sta {pl : Sem Bool} (he : PE X o ta) (c : StaC X.K C mc m p g) (F : FnOk X.prog X.w X.K X.mg X.base CX k g fd ps sp) (hr : Room k X.A) (hb : Binds X.K fd ps ds) (hd : Vals dvs ds) (hx : Passes CX X E) (ha : PA X (e :: es) t)
    (hst : starEach (e :: es) X.env = (false, eval e X.env) :: starEach es X.env := by rfl) (hpl : (backTo pos (starEach es X.env)).any (·.1) = false := by rfl)
    (ht : eval (.Call (.Attribute o m apos) (e :: es) [] pos) X.env = (eval o X.env >>= fun ov => standAt apos.atName >>= fun _ => holding [ov] (getMethod ov m pl) >>= fun fr => callWith pos fr.1 fr.2 (backTo pos (starEach (e :: es) X.env)) (backToKw pos (keywordEach [] X.env))) := by rfl) :
    PE X (.Call (.Attribute o m apos) (e :: es) [] pos) (tSta C sp dvs E ta t) := by
  refine ⟨fun pins s σ H Q I h => ?_⟩
  refine PySem.W.methodCall_KW (pl := pl) (thn (he.run pins s σ H _ I h) ?_) ht
  rintro u s1 ⟨x, H1, I1, rx, rfl, q⟩
  cases rx
  obtain ⟨rest, hp⟩ := c.rc
  refine PySem.W.method_cls I1.kIn c.ga (PySem.W.cls_bind I1.kIn c.rd c.at_ (wpAny_call ?_))
  refine PySem.W.sm_get (s := { s1 with toks := s1.toks + 1 }) I1.kIn hp (PySem.W.handed_on rfl ?_)
  refine PySem.W.callWith_K (first := []) (h₀ := X.base) I1.ok.mod.kin c.kp (thn (ha.run pos pins _ σ H1 _ (I1.tok _) q) fun us s2 ⟨vs, H2, I2, r, q2⟩ => ⟨I2.kIn, ?_⟩) hst hpl
  exact run_fn F hr hb hd hx I2 r q2
/-- x in t, t a tuple, of data of any depth -/
def rInT (K : PySem.W.Frag) (neg : Bool) : R2 := fun x y H Q => ∃ d ds, Dp K H x d ∧ Dp K H y (.tuple ds) ∧ SeqAt.shaped d = true ∧ SeqAt.shaped (.tuple ds) = true ∧ Q (.bl (if neg then !(ds.any fun z => PyData.eqv z d) else ds.any fun z => PyData.eqv z d)) H
theorem op_inT (hu : X.A.units + 65 < cLine) : OpR X (compareOp .In) (rInT X.K false) := by
  rintro pins s σ H x y v u Q I rx ry ⟨d, ds, hd, he, sd, se, q⟩
  obtain ⟨as, r1⟩ := Dp.reads I d x v hd rx
  obtain ⟨bs, r2⟩ := Dp.reads I (.tuple ds) y u he ry
  exact SeqAt.in_tuple_reads r2 r1 (SeqAt.canLay_of_shaped se) (SeqAt.canLay_of_shaped sd) (room_in_shaped sd hu) ⟨.bl _, H, I, rfl, q⟩
theorem op_notInT (hu : X.A.units + 65 < cLine) : OpR X (compareOp .NotIn) (rInT X.K true) := by
  rintro pins s σ H x y v u Q I rx ry ⟨d, ds, hd, he, sd, se, q⟩
  obtain ⟨as, r1⟩ := Dp.reads I d x v hd rx
  obtain ⟨bs, r2⟩ := Dp.reads I (.tuple ds) y u he ry
  exact SeqAt.notIn_tuple_reads r2 r1 (SeqAt.canLay_of_shaped se) (SeqAt.canLay_of_shaped sd) (room_in_shaped sd hu) ⟨.bl _, H, I, rfl, q⟩
end
end My

set_option Elab.async false
set_option linter.all false
set_option maxRecDepth 100000
set_option maxHeartbeats 4000000
/-! ### for x in o, o of an own class whose __iter__ gives iter(a list) -/
namespace My
open PySem PySem.Spec PyProof.Rows L2
/-- a def of one parameter list that tells of what it makes: n is the heap's size at its call -/
structure FnNew (P : Program) (w : World) (K : PySem.W.Frag) (mg : Str → Option Value) (base : Heap) (k : Nat) (f : Addr) (fd : FuncData) (ps : List Str) (sp : Nat → Sp) : Prop where
  len : ∀ n vs H Q E, sp n vs H Q E → vs.length = ps.length
  run : ∀ (A : Around) (outer : List Env) (s : Shared) (H : Hp) (us : List Value) (vs : List V) (Q : VK) (E : XK), Room k A → Env0 P w K mg base A outer s H → BindsTo s fd ⟨us, []⟩ (ps.zip us) → Vals vs us → sp s.heap.objs.size vs H Q E → codeAny (model P w) A (.call (.ref f) ⟨us, []⟩) (CR CX0 outer P w H s Q E) s
theorem FnNew.ok {P : Program} {w : World} {K : PySem.W.Frag} {mg : Str → Option Value} {base : Heap} {x qual : Str} {st : Stmt} {f : Addr} {fd : FuncData} {N ps : List Str} {k : Nat} {sp : Nat → Sp} (F : Fun K x qual st f fd) (S : FnScope N ps (defScope st)) (len : ∀ n vs H Q E, sp n vs H Q E → vs.length = ps.length)
    (hb : ∀ (cdv : Value) (A : Around) (outer : List Env) (s : Shared) (H : Hp) (vs : List V) (Q : VK) (E : XK), Room k (A.deeper (envOfC qual (defScope st) s.heap.objs.size f cdv)) → sp s.heap.objs.size vs H Q E →
      ∃ t, PSs (cxOf CX0 P w K mg base N qual (defScope st) f cdv A outer s H E).nox (defBody st) t ∧ t { nx := fun _ H' => Q .non H', rt := Q } (start N vs) H) : FnNew P w K mg base (k + 1) f fd ps sp := by
  obtain ⟨oc, od, kV, doc, pm, an, cdv, ct, osl, rfl, lk, cd⟩ := F.ex
  refine ⟨len, fun A outer s0 H us vs Q E rm en bd rv hs => ?_⟩
  have ln := len _ _ _ _ _ hs
  have inK : K.In s0.heap := en.mod.kin.keeps fun b o e => (en.bs b o e).1
  have nol : s0.heap.NoLimit := en.mod.nolimit.keeps fun b o e => (en.bs b o e).1
  have kinds : ∀ y ∈ ps.zip us, (defScope st).names.lookup y.1 = some .local ∨ ((defScope st).names.lookup y.1 = some .cell ∧ ((cellsFrom (s0.heap.objs.size + 1) (defScope st).names []).lookup y.1).isSome = true) := by
    rintro ⟨nm, v⟩ hy
    rcases S.par nm (List.of_mem_zip hy).1 with z | z
    · exact .inl z
    · exact .inr ⟨z, PySem.W.cellsFrom_some _ _ _ (.inl z)⟩
  refine codeAny_call_function rm.depth (inK _ _ lk) rfl S.co S.gen rfl (PySem.W.codeRec_of inK cd) (bd _ _ _ _ ?_)
  refine wpAny_newFunctionEnv_cells S.kind kinds fun env ee s1 mk => ?_
  cases ee
  refine ⟨nol.keeps mk.toInCall.keep, codeAny_func ?_⟩
  obtain ⟨t, ht, hq⟩ := hb cdv A outer s0 H vs Q E (rm.deeper _) hs
  have ht := ht.nox
  have I0 : Inv (cxOf CX0 P w K mg base N qual (defScope st) f cdv A outer s0 H E) [] (start N vs) H s1 := inv_start S rm.hd en ln rv mk
  refine wpAny_mono (ht.run [] s1 (start N vs) H _ I0 hq) (fun fl s2 r => ?_) fun _ _ r => r
  cases fl with
  | ret u =>
    obtain ⟨v, σ2, H2, J, rv, q⟩ := r
    exact ⟨v, H2, J.os, J.bare, J.base, J.hok, rv, q⟩
  | next =>
    obtain ⟨σ2, H2, J, q⟩ := r
    exact ⟨.non, H2, J.os, J.bare, J.base, J.hok, rfl, q⟩
  | brk =>
    obtain ⟨_, _, _, q⟩ := r
    exact q.elim
  | cont =>
    obtain ⟨_, _, _, q⟩ := r
    exact q.elim
structure ItrC (K : PySem.W.Frag) (C gi : Addr) : Prop where
  it : PySem.W.findIn K (.ref C) "__iter__" = some (some (.ref gi))
  itF : PySem.W.isFn K (.ref gi) = true
def iOwn (K : PySem.W.Frag) (C : Addr) (sp : Nat → Sp) (E : XK) (te : TE) : TI := fun σ H R => te σ H fun x H1 => ∃ (a dx : Addr) (fs : List (Str × V)), x = .ref a ∧ H1 a = some (.ins C dx fs) ∧
  ∀ n, sp n [.ref a] H1 (fun v H2 => ∃ l it, v = .ref it ∧ H1 it = none ∧ n ≤ it ∧ H2 = upd H1 it (ItO l it 0) ∧ (∃ xs, SqL K H1 l xs) ∧ R (Itl K l) H1) E
theorem pi_own {X : Cx} {tg e : Expr} {te : TE} {C gi : Addr} {fdi : FuncData} {psi : List Str} {si : Nat → Sp} {ki : Nat} {E : XK} (c : ItrC X.K C gi) (F : FnNew X.prog X.w X.K X.mg X.base ki gi fdi psi si) (bi : Binds X.K fdi psi []) (hr : Room ki X.A) (he : PE X e te) : PI X tg e (iOwn X.K C si E te) := by
  refine ⟨fun pins s σ H R I h => ?_⟩
  refine thn (he.run pins s σ H _ I h) fun v s1 ⟨x, H1, I1, r1, a, dx, fs, ex, ha, q⟩ => ?_
  subst ex
  cases r1
  obtain ⟨ox, od, J⟩ := inst_of I1 ha
  obtain ⟨m0, hF⟩ := I1.fr
  refine PySem.W.owit_iter hF I1.ok.mod.kin J c.it c.itF ?_
  have q := q s1.heap.objs.size
  have len := F.len _ _ _ _ _ q
  have bnd := bi s1 [.ref a] I1.kIn (by rw [List.append_nil]; exact len)
  rw [List.append_nil] at bnd
  refine wpAny_call (codeAny_mono (F.run X.A X.stack s1 H1 [.ref a] [.ref a] _ E (sub_here hr).room (env_under (sub_here hr) I1) bnd (.cons rfl .nil) q) ?_)
  rintro (e | fl) s' z
  · exact False.elim z
  cases fl with
  | ret u =>
    obtain ⟨v, H2, I2, r, l, it, ev, nit, new, e2, ⟨xs, hl⟩, hR⟩ := I1.after z
    subst ev
    subst e2
    cases r
    have hit : (upd H1 it (ItO l it 0)) it = some (ItO l it 0) := upd_same
    have oit : s'.heap.get? it = some (GNX.itObj l 0) := itO_get I2 hit
    have I3 := ItX.inv_drop I2 hit
    have fp := ItX.inv_fp I2 hit (Nat.le_trans I1.sz new)
    rw [ItX.dropH_upd nit] at I3 fp
    unfold PySem.W.OwitIt
    have hT : s'.TypeIs (.ref it) "list_iterator" := ⟨_, oit, rfl⟩
    refine wpAny_specialOf (name := Str.ofString "__next__") hT slot_listiter_next.lookup ?_
    refine ⟨it, [it], _, _, H1, rfl, I3, turn_list l it, ⟨_, oit, rfl, rfl⟩, fun b hb => ?_, hR⟩
    have e : b = it := by simpa using hb
    subst e
    exact fp
  | next => exact False.elim z
  | brk => exact False.elim z
  | cont => exact False.elim z
end My

set_option Elab.async false
set_option linter.all false
set_option maxRecDepth 100000
set_option maxHeartbeats 4000000
/-! ### slices of mapped lists -/
namespace My
open PySem L2
theorem cut_ij {α : Type} {f : α → V} {ts : List α} {i j : Nat} (h : i ≤ j) : cutV (ts.map f) (some (i : Int)) (some (j : Int)) = ((ts.drop i).take (j - i)).map f := by
  unfold cutV
  rw [HT.sIx_nat, HT.sIx_nat, List.length_map, ← List.map_drop, ← List.map_take]
  congr 1
  rcases Nat.le_total i ts.length with z | z
  · rw [Nat.min_eq_left z]
    rcases Nat.le_total j ts.length with z2 | z2
    · rw [Nat.min_eq_left z2]
    · rw [Nat.min_eq_right z2, List.take_of_length_le (by rw [List.length_drop]; omega), List.take_of_length_le (by rw [List.length_drop]; omega)]
  · rw [Nat.min_eq_right z, List.drop_length, List.drop_of_length_le z]; simp
theorem cut_0j {α : Type} {f : α → V} {ts : List α} {j : Nat} : cutV (ts.map f) none (some (j : Int)) = (ts.take j).map f := by
  have := cut_ij (f := f) (ts := ts) (Nat.zero_le j)
  rw [List.drop_zero, Nat.sub_zero] at this
  exact this
theorem cut_i {α : Type} {f : α → V} {ts : List α} {i : Nat} : cutV (ts.map f) (some (i : Int)) none = (ts.drop i).map f := by
  unfold cutV
  rw [HT.sIx_nat, ← List.map_drop, ← List.map_take]
  congr 1
  show (ts.drop (min i (ts.map f).length)).take ((ts.map f).length - _) = _
  rw [List.length_map]
  rcases Nat.le_total i ts.length with z | z
  · rw [Nat.min_eq_left z, List.take_of_length_le (by rw [List.length_drop]; omega)]
  · rw [Nat.min_eq_right z, List.drop_length, List.drop_of_length_le z]; simp
end My

set_option Elab.async false
set_option linter.all false
set_option maxRecDepth 100000
set_option maxHeartbeats 4000000
/-! ### data of any depth: kept, walked in lists or tuples -/
namespace My
open PySem PySem.Spec PyProof.Rows L2
/-- no list or tuple stands in S -/
def NoSq (H : Hp) (S : List Addr) : Prop := ∀ a ∈ S, (∀ xs, H a ≠ some (.lst xs)) ∧ (∀ xs, H a ≠ some (.tup xs)) ∧ ∀ o u, H a ≠ some (.frz o u)
theorem noSq0 {H : Hp} : NoSq H [] := fun a h => nomatch h
theorem noSq1 {H : Hp} {a C dx : Addr} {fs : List (Str × V)} (h : H a = some (.ins C dx fs)) : NoSq H [a] := fun b hb => by
  rw [List.mem_singleton.mp hb, h]
  exact ⟨fun _ z => (by cases z), fun _ z => (by cases z), fun _ _ z => (by cases z)⟩
theorem Kp.lsN {S : List Addr} {K : PySem.W.Frag} {H H' : Hp} {a : Addr} {xs : List V} (k : Kp S H H') (n : NoSq H S) (h : SqL K H a xs) : SqL K H' a xs := by
  rcases h with (h | ⟨o, h⟩) | h
  · exact .inl (.inl (k _ _ (fun z => (n a z).1 _ h) h))
  · exact .inl (.inr ⟨o, k _ _ (fun z => (n a z).2.2 _ _ h) h⟩)
  · exact .inr h
theorem Kp.tpN {S : List Addr} {K : PySem.W.Frag} {H H' : Hp} {a : Addr} {xs : List V} (k : Kp S H H') (n : NoSq H S) (h : SqT K H a xs) : SqT K H' a xs := by
  rcases h with (h | ⟨o, h⟩) | h
  · exact .inl (.inl (k _ _ (fun z => (n a z).2.1 _ h) h))
  · exact .inl (.inr ⟨o, k _ _ (fun z => (n a z).2.2 _ _ h) h⟩)
  · exact .inr h
mutual
theorem dpN {S : List Addr} {K : PySem.W.Frag} {H H' : Hp} (k : Kp S H H') (n : NoSq H S) : ∀ {d : PyData} {v : V}, Dp K H v d → Dp K H' v d
  | _, _, .non => .non
  | _, _, .bl b => .bl b
  | _, _, .int i => .int i
  | _, _, .str x => .str x
  | _, _, .lst e h => .lst (k.lsN n e) (dpAllN k n h)
  | _, _, .tup e h => .tup (k.tpN n e) (dpAllN k n h)
theorem dpAllN {S : List Addr} {K : PySem.W.Frag} {H H' : Hp} (k : Kp S H H') (n : NoSq H S) : ∀ {ds : List PyData} {vs : List V}, DpAll K H vs ds → DpAll K H' vs ds
  | _, _, .nil => .nil
  | _, _, .cons h t => .cons (dpN k n h) (dpAllN k n t)
end
mutual
def noLs : PyData → Bool
  | .list _ => false
  | .tuple ds => noLsAll ds
  | _ => true
def noLsAll : List PyData → Bool
  | [] => true
  | d :: ds => noLs d && noLsAll ds
end
/-- .. stand as before, where lists change -/
def NoTp (H : Hp) (S : List Addr) : Prop := ∀ a ∈ S, (∀ xs, H a ≠ some (.tup xs)) ∧ ∀ o u, H a ≠ some (.frz o u)
theorem noTp1 {H : Hp} {a : Addr} {xs : List V} (h : H a = some (.lst xs)) : NoTp H [a] := fun b hb => by
  rw [List.mem_singleton.mp hb, h]
  exact ⟨fun _ z => (by cases z), fun _ _ z => (by cases z)⟩
theorem Kp.tpT {S : List Addr} {K : PySem.W.Frag} {H H' : Hp} {a : Addr} {xs : List V} (k : Kp S H H') (n : NoTp H S) (h : SqT K H a xs) : SqT K H' a xs := by
  rcases h with (h | ⟨o, h⟩) | h
  · exact .inl (.inl (k _ _ (fun z => (n a z).1 _ h) h))
  · exact .inl (.inr ⟨o, k _ _ (fun z => (n a z).2 _ _ h) h⟩)
  · exact .inr h
mutual
theorem dpT {S : List Addr} {K : PySem.W.Frag} {H H' : Hp} (k : Kp S H H') (n : NoTp H S) : ∀ {d : PyData} {v : V}, Dp K H v d → noLs d = true → Dp K H' v d
  | _, _, .non, _ => .non
  | _, _, .bl b, _ => .bl b
  | _, _, .int i, _ => .int i
  | _, _, .str x, _ => .str x
  | _, _, .lst e h, z => by cases z
  | _, _, .tup e h, z => .tup (k.tpT n e) (dpAllT k n h z)
theorem dpAllT {S : List Addr} {K : PySem.W.Frag} {H H' : Hp} (k : Kp S H H') (n : NoTp H S) : ∀ {ds : List PyData} {vs : List V}, DpAll K H vs ds → noLsAll ds = true → DpAll K H' vs ds
  | _, _, .nil, _ => .nil
  | _, _, .cons h t, z => by
    have z' := Bool.and_eq_true_iff.mp z
    exact .cons (dpT k n h z'.1) (dpAllT k n t z'.2)
end
theorem dpLen {K : PySem.W.Frag} {H : Hp} : ∀ {ds : List PyData} {vs : List V}, DpAll K H vs ds → vs.length = ds.length
  | _, _, .nil => rfl
  | _, _, .cons h t => by rw [List.length_cons, List.length_cons, dpLen t]
theorem dpGet {K : PySem.W.Frag} {H : Hp} : ∀ {ds : List PyData} {vs : List V}, DpAll K H vs ds → ∀ {i : Nat} {v : V}, vs[i]? = some v → ∃ d, ds[i]? = some d ∧ Dp K H v d
  | _, _, .nil, _, _, e => nomatch e
  | _, _, .cons h t, 0, _, e => by cases e; exact ⟨_, rfl, h⟩
  | _, _, .cons h t, i + 1, _, e => dpGet t (i := i) e
theorem dpApp {K : PySem.W.Frag} {H : Hp} : ∀ {ds es : List PyData} {vs us : List V}, DpAll K H vs ds → DpAll K H us es → DpAll K H (vs ++ us) (ds ++ es)
  | _, _, _, _, .nil, k => k
  | _, _, _, _, .cons h t, k => .cons h (dpApp t k)
theorem dpTake {K : PySem.W.Frag} {H : Hp} : ∀ {ds : List PyData} {vs : List V}, DpAll K H vs ds → ∀ i, DpAll K H (vs.take i) (ds.take i)
  | _, _, .nil, i => by rw [List.take_nil, List.take_nil]; exact .nil
  | _, _, .cons h t, 0 => .nil
  | _, _, .cons h t, i + 1 => .cons h (dpTake t i)
theorem dpDrop {K : PySem.W.Frag} {H : Hp} : ∀ {ds : List PyData} {vs : List V}, DpAll K H vs ds → ∀ i, DpAll K H (vs.drop i) (ds.drop i)
  | _, _, .nil, i => by rw [List.drop_nil, List.drop_nil]; exact .nil
  | _, _, .cons h t, 0 => .cons h t
  | _, _, .cons h t, i + 1 => dpDrop t i
theorem dpRev {K : PySem.W.Frag} {H : Hp} : ∀ {ds : List PyData} {vs : List V}, DpAll K H vs ds → DpAll K H vs.reverse ds.reverse
  | _, _, .nil => .nil
  | _, _, .cons h t => by
    rw [List.reverse_cons, List.reverse_cons]
    exact dpApp (dpRev t) (.cons h .nil)
theorem dpStrs {K : PySem.W.Frag} {H : Hp} : ∀ zs : List Str, DpAll K H (zs.map V.str) (zs.map PyData.str)
  | [] => .nil
  | z :: zs => .cons (.str z) (dpStrs zs)
/-- an object walked that is a list or a tuple -/
def SqAny (K : PySem.W.Frag) (H : Hp) (a : Addr) (xs : List V) : Prop := SqL K H a xs ∨ SqT K H a xs
theorem Kp.anyN {S : List Addr} {K : PySem.W.Frag} {H H' : Hp} {a : Addr} {xs : List V} (k : Kp S H H') (n : NoSq H S) (h : SqAny K H a xs) : SqAny K H' a xs := h.imp (k.lsN n) (k.tpN n)
def iSeq (K : PySem.W.Frag) (tl : TE) : TI := fun σ H R => tl σ H fun x H1 => ∃ a, x = .ref a ∧ (((∃ xs, SqL K H1 a xs) ∧ R (Itl K a) H1) ∨ ((∃ xs, SqT K H1 a xs) ∧ R (Itt K a) H1))
section
variable {X : Cx} {tg : Expr}
theorem pi_seq {l : Expr} {tl : TE} (hl : PE X l tl) : PI X tg l (iSeq X.K tl) := by
  refine ⟨fun pins s σ H R I h => thn (hl.run pins s σ H _ I h) ?_⟩
  rintro v s1 ⟨x, H1, I1, r1, a, rfl, ⟨⟨xs, hq⟩, q⟩ | ⟨⟨xs, hq⟩, q⟩⟩
  · cases r1
    obtain ⟨its, rv, p, hz⟩ := I1.list hq
    refine wpAny_pyIter_list p.isList ⟨_, [_], _, _, H1, rfl, I1.kept (t' := s1.toks) (fun b o e => Heap.get?_push_of_some _ e), turn_list a _, ⟨_, Heap.get?_push_size _ rfl, rfl, rfl⟩, fun b hb => ?_, q⟩
    rw [List.mem_singleton.mp hb]
    exact I1.fpOk (Nat.le_refl _) (I1.hok.fresh (Nat.le_refl _))
  · cases r1
    obtain ⟨its, rv, p, hz⟩ := I1.tuple hq
    refine wpAny_pyIter_tuple (show s1.heap.IsTuple a its.toArray from p) ⟨_, [_], _, _, H1, rfl, I1.kept (t' := s1.toks) (fun b o e => Heap.get?_push_of_some _ e), turn_tuple a _, ⟨_, Heap.get?_push_size _ rfl, rfl, rfl⟩, fun b hb => ?_, q⟩
    rw [List.mem_singleton.mp hb]
    exact I1.fpOk (Nat.le_refl _) (I1.hok.fresh (Nat.le_refl _))
/-- x in s, s a list or a tuple -/
def rInS (K : PySem.W.Frag) (neg : Bool) : R2 := fun x y H Q => ∃ (d : PyData) (ds : List PyData) (a : Addr) (xs : List V), y = .ref a ∧ SqAny K H a xs ∧ DpAll K H xs ds ∧ Dp K H x d ∧ SeqAt.shaped d = true ∧ SeqAt.shaped (.list ds) = true ∧ Q (.bl (if neg then !(ds.any fun z => PyData.eqv z d) else ds.any fun z => PyData.eqv z d)) H
theorem op_inS (hu : X.A.units + 65 < cLine) : OpR X (compareOp .In) (rInS X.K false) := by
  rintro pins s σ H x y v u Q I rx ry ⟨d, ds, a, xs, rfl, ha | ha, hx, hd, s1, s2, q⟩
  · exact op_inD hu pins s σ H x _ v u Q I rx ry ⟨d, ds, hd, .lst ha hx, s1, s2, q⟩
  · exact op_inT hu pins s σ H x _ v u Q I rx ry ⟨d, ds, hd, .tup ha hx, s1, s2, q⟩
theorem op_notInS (hu : X.A.units + 65 < cLine) : OpR X (compareOp .NotIn) (rInS X.K true) := by
  rintro pins s σ H x y v u Q I rx ry ⟨d, ds, a, xs, rfl, ha | ha, hx, hd, s1, s2, q⟩
  · exact op_notInD hu pins s σ H x _ v u Q I rx ry ⟨d, ds, hd, .lst ha hx, s1, s2, q⟩
  · exact op_notInT hu pins s σ H x _ v u Q I rx ry ⟨d, ds, hd, .tup ha hx, s1, s2, q⟩
theorem hu5 {A : Around} {k : Nat} (hr : Room k A) : A.units + 65 < cLine := by have := hr.un; omega
end
section
variable {K : PySem.W.Frag} {H H0 : Hp} {a : Addr} {xs : List V} {g : TG} {tb : TS} {D : Ends} {σ : L2.St} {i : Nat}
/-- for x in s, s a list or a tuple that stands still -/
theorem forS (Pv : Nat → L2.St → Hp → Prop) (hσ : σ[i]? = some (some (.ref a))) (hS : SqAny K H a xs) (h0 : Pv 0 σ H) (hk : ∀ j σ' H', Pv j σ' H' → Kp [] H H')
    (hs : ∀ j x σ H, xs[j]? = some x → Pv j σ H → g x σ H fun σ2 H2 => tb { D with nx := Pv (j + 1), ct := Pv (j + 1), bk := D.nx } σ2 H2) (hd : ∀ σ H, Pv xs.length σ H → D.nx σ H) : tFor (iSeq K (tVar i)) g tb D σ H := by
  rcases hS with h | h
  · exact ⟨_, hσ, a, rfl, .inl ⟨⟨xs, h⟩, for_list Pv h0 (fun j σ' H' _ p => (hk j σ' H' p).ls not0 h) hs hd⟩⟩
  · exact ⟨_, hσ, a, rfl, .inr ⟨⟨xs, h⟩, for_tup Pv h0 (fun j σ' H' _ p => (hk j σ' H' p).tp not0 h) hs hd⟩⟩
end
end My

set_option Elab.async false
set_option linter.all false
set_option maxRecDepth 100000
set_option maxHeartbeats 4000000
/-! ### d.values() as a value, list(d.values()) -/
namespace My
open PySem L2 PySem.W
/-- at q: the view of the values of the dict at d -/
def viewO (q d : Addr) : HO := .ext fun h => h.get? q = some ({ cls := .type "dict_values", data := .fields #[.ref d] } : Obj)
theorem view_ok {P : Program} {w : World} {H : Hp} {h : Heap} {q d : Addr} (e : h.get? q = some ({ cls := .type "dict_values", data := .fields #[.ref d] } : Obj)) : ObjOk P w H h q (viewO q d) := ⟨e, ⟨_, e⟩, fun _ _ z k => k _ z⟩
theorem view_at {P : Program} {w : World} {H : Hp} {h : Heap} {q d : Addr} (ok : HOk P w H h) (e : H q = some (viewO q d)) : h.get? q = some ({ cls := .type "dict_values", data := .fields #[.ref d] } : Obj) := by
  have x : ObjOk P w H h q (.ext fun h => h.get? q = some ({ cls := .type "dict_values", data := .fields #[.ref d] } : Obj)) := ok q _ e
  exact x.1
def tVals (td : TE) : TE := fun σ H Q => td σ H fun x H1 => ∃ (a : Addr) (kvs : List (Key × V)), x = .ref a ∧ H1 a = some (.dK kvs) ∧ ∀ q, H1 q = none → Q (.ref q) (upd H1 q (viewO q a))
def rListV : List V → Hp → VK → Prop := fun xs H Q => ∃ (q a : Addr) (kvs : List (Key × V)), xs = [.ref q] ∧ H q = some (viewO q a) ∧ H a = some (.dK kvs) ∧ ∀ p, H p = none → Q (.ref p) (upd H p (.lst (kvs.map fun kv => kv.2)))
theorem vals_of : ∀ {kvs : List (Key × V)} {vs : List (Key × Value)} {us : List Value}, KV kvs vs → us.length = vs.length → (∀ (j : Nat) (v : Value), us[j]? = some v → ∃ k, vs[j]? = some (k, v)) → Vals (kvs.map fun kv => kv.2) us
  | [], [], [], _, _, _ => .nil
  | p :: r, q :: vs, u :: us, h, hl, e => by
    cases h with
    | cons h1 h2 =>
      obtain ⟨k, e1⟩ := e 0 u rfl
      have e1' : q = (k, u) := Option.some.inj e1
      subst e1'
      exact .cons h1.2 (vals_of h2 (by simpa using hl) fun j v z => e (j + 1) v z)
  | [], _ :: _, _, h, _, _ => by cases h
  | _ :: _, [], _, h, _, _ => by cases h
  | [], [], _ :: _, _, hl, _ => by cases hl
  | _ :: _, _ :: _, [], _, hl, _ => by cases hl
section
variable {X : Cx} {o : Expr} {td : TE} {apos cpos : Pos}
theorem pe_values (he : PE X o td) (hbase : attributeBase o "values" X.env (eval o X.env) = eval o X.env := by rfl) (hline : (apos.endLine == cpos.line) = true := by rfl) : PE X (.Call (.Attribute o "values" apos) [] [] cpos) (tVals td) := by
  refine ⟨fun pins s σ H Q I h => ?_⟩
  refine wpAny_Call_method (T := "dict") (id := "dict.values") hbase rfl hline F.plainAttrs_dict F.slot_dict_values F.type_dict_values (thn (he.run pins s σ H _ I h) fun u s1 ⟨x, H1, I1, rx, d, kvs, ex, hd, q⟩ => ?_)
  subst ex
  cases (show u = Value.ref d from rx)
  obtain ⟨_, hs, vs, rel, dof⟩ := dk_of I1.hok hd
  refine ⟨dof.typeIs, dof.mapOf.noDict, ?_⟩
  have got := Heap.get?_push_size s1.heap (o := ({ cls := .type "dict_values", data := .fields #[.ref d] } : Obj)) rfl
  have J : Inv X pins σ (upd H1 s1.heap.objs.size (viewO s1.heap.objs.size d)) { s1 with heap := s1.heap.push { cls := .type "dict_values", data := .fields #[.ref d] } } := I1.laid (t' := s1.toks) (fun b ob q => Heap.get?_push_of_some _ q) (Nat.le_refl _) (view_ok got)
  exact method_meetsIn F.slot_dict_values F.entry_dict_values rfl (PySem.evalArgs_none ⟨rfl, dof.typeIs, F.args_dict_values_1 _, _, meets_dict_values (mixKind X.prog X.w) d hs, ⟨vs, dof⟩, ⟨.ref s1.heap.objs.size, _, J, rfl, q _ (I1.hok.fresh (Nat.le_refl _))⟩⟩)
theorem call_listV (hcalm : X.calm = true) : CallR X (.type "list") rListV := by
  intro pins s σ H xs us Q I r h
  obtain ⟨v, a, kvs, rfl, hv, ha, q⟩ := h
  obtain ⟨u, rfl, rx⟩ := vals1 r
  cases (show u = Value.ref v from rx)
  obtain ⟨z, hs, vs, rel, dof⟩ := dk_of I.hok ha
  obtain ⟨es, ep, raw, sz, each⟩ := dof.raw
  have hl := KV.length rel
  refine PySem.W.kdl_call (KdlSrc.rawValues (r := v) (d := a) (es := es) (ep := ep)) (I.ok.hd hcalm) ⟨⟨_, view_at I.hok hv, rfl, rfl⟩, raw⟩ (by omega) fun h' tk acc c' hk hD hacc => ?_
  have av : Vals (kvs.map fun kv => kv.2) acc.toList := vals_of rel (by rw [Array.length_toList, hacc.1, sz]) fun j u ej => by
    rw [Array.getElem?_toList] at ej
    obtain ⟨hi, rfl⟩ := hacc.2 j u ej
    have hj : j < vs.length := by omega
    have e1 : vs[j]? = some (vs[j].1, vs[j].2) := List.getElem?_eq_getElem hj
    have e2 := (each j hi _ _ e1).2
    exact ⟨vs[j].1, by rw [e1, e2]⟩
  refine ⟨.ref s.heap.objs.size, upd H s.heap.objs.size (.lst (kvs.map fun kv => kv.2)), I.laid (t' := tk) hk (Nat.le_refl _) ?_, rfl, q _ (I.hok.fresh (Nat.le_refl _))⟩
  exact (show ObjOk X.prog X.w _ _ _ (.lst _) from ⟨by rw [List.length_map]; exact z, acc.toList, c', av, by rw [Array.toArray_toList]; exact hD⟩)
end
end My

set_option linter.all false
/-! ### sorted texts: one list -/
namespace My
open PySem PyProof.Rows
theorem risingS_pw : ∀ (l : List Str) (p : Str), risingS p l = true → (p :: l).Pairwise (fun a b => a.cps.toList ≤ b.cps.toList)
  | [], p, _ => List.pairwise_singleton _ _
  | x :: r, p, h => by
    have h' : (!Spec.ltCps x.cps.toList p.cps.toList && risingS x r) = true := h
    rw [Bool.and_eq_true, ltCps_eq] at h'
    have px : p.cps.toList ≤ x.cps.toList := by
      have := h'.1
      simp only [Bool.not_eq_true', decide_eq_false_iff_not] at this
      exact List.not_lt.mp this
    have ih := risingS_pw r x h'.2
    refine List.pairwise_cons.mpr ⟨fun y hy => ?_, ih⟩
    rcases List.mem_cons.mp hy with rfl | hy
    · exact px
    · exact List.le_trans px (List.rel_of_pairwise_cons ih hy)
theorem sortedS_pw {l : List Str} (h : sortedS l = true) : l.Pairwise (fun a b => a.cps.toList ≤ b.cps.toList) := by
  cases l with
  | nil => exact List.Pairwise.nil
  | cons x r => exact risingS_pw r x h
theorem str_ext {a b : Str} (h : a.cps.toList = b.cps.toList) : a = b := by
  obtain ⟨⟨a⟩⟩ := a
  obtain ⟨⟨b⟩⟩ := b
  have h' : a = b := h
  rw [h']
theorem sorted_uniq {l m : List Str} (hl : sortedS l = true) (hm : sortedS m = true) (p : l.Perm m) : l = m :=
  List.Perm.eq_of_pairwise (le := fun a b : Str => a.cps.toList ≤ b.cps.toList) (fun a b _ _ h1 h2 => str_ext (List.le_antisymm h1 h2)) (sortedS_pw hl) (sortedS_pw hm) p
end My

set_option Elab.async false
set_option linter.all false
set_option maxRecDepth 100000
set_option maxHeartbeats 4000000
/-! ### slices and sums of any tuples, as their callers read them -/
namespace My
open PySem L2
theorem cut_to (xs : List V) (k : Nat) : cutV xs none (some (k : Int)) = xs.take k := by
  unfold cutV
  rw [HT.sIx_none, HT.sIx_nat, List.drop_zero, Nat.sub_zero]
  by_cases h : k ≤ xs.length
  · rw [Nat.min_eq_left h]
  · rw [Nat.min_eq_right (by omega), List.take_length, List.take_of_length_le (by omega)]
theorem cut_from (xs : List V) (k : Nat) : cutV xs (some (k : Int)) none = xs.drop k := by
  unfold cutV
  rw [HT.sIx_none, HT.sIx_nat]
  by_cases h : k ≤ xs.length
  · rw [Nat.min_eq_left h, List.take_of_length_le (by rw [List.length_drop]; omega)]
  · rw [Nat.min_eq_right (by omega), List.drop_length, List.drop_of_length_le (by omega), List.take_nil]
section
variable {K : PySem.W.Frag} {H : Hp} {a b : Addr} {xs ys : List V} {Q : VK} {k : Nat} {i : Int}
theorem slA_to (e : i = (k : Nat)) (h : H a = some (.tup xs)) (q : ∀ r H', H' r = some (.tup (xs.take k)) → Kp [] H H' → Q (.ref r) H') : rSlA K (.ref a) none (some i) H Q := by
  subst e
  refine ⟨a, xs, rfl, sq_t h, fun z => q a H ?_ (Kp.refl _ _), fun _ p np => q p _ (by rw [upd_same, cut_to]) (Kp.new np)⟩
  have z2 := z.2
  rw [HT.sIx_nat] at z2
  rw [h, List.take_of_length_le (by omega)]
theorem slA_from (e : i = (k : Nat)) (h : H a = some (.tup xs)) (q : ∀ r H', H' r = some (.tup (xs.drop k)) → Kp [] H H' → Q (.ref r) H') : rSlA K (.ref a) (some i) none H Q := by
  subst e
  refine ⟨a, xs, rfl, sq_t h, fun z => q a H ?_ (Kp.refl _ _), fun _ p np => q p _ (by rw [upd_same, cut_from]) (Kp.new np)⟩
  have z1 := z.1
  rw [HT.sIx_nat] at z1
  by_cases h0 : k = 0
  · rw [h, h0]; rfl
  · have : xs = [] := List.eq_nil_of_length_eq_zero (by omega)
    rw [h, this, List.drop_nil]
theorem catA_use (ha : H a = some (.tup xs)) (hb : H b = some (.tup ys)) (hl : xs.length + ys.length ≤ 1000) (q : ∀ r H', H' r = some (.tup (xs ++ ys)) → Kp [] H H' → Q (.ref r) H') : rCatA K (.ref a) (.ref b) H Q := by
  refine ⟨a, b, xs, ys, rfl, rfl, sq_t ha, sq_t hb, small (by omega), fun e => q b H ?_ (Kp.refl _ _), fun _ e => q a H ?_ (Kp.refl _ _), fun _ _ p np => q p _ upd_same (Kp.new np)⟩
  · rw [hb, e]; rfl
  · rw [ha, e, List.append_nil]
end
end My

set_option Elab.async false
set_option linter.all false
set_option maxRecDepth 100000
set_option maxHeartbeats 4000000
/-! ### x[y], x an instance of an own class that defines __getitem__ -/
namespace My
open PySem PySem.Spec PyProof.Rows L2
section
variable {X : Cx} {CX : CXT} {pins : List (Addr × Obj)} {σ : L2.St} {H : Hp} {s : Shared} {C g a : Addr} {fd : FuncData} {ps : List Str} {sp : Sp} {E : XK} {k : Nat} {A1 : Around}
structure GetC (K : PySem.W.Frag) (C g : Addr) : Prop where
  at_ : PySem.W.findIn K (.ref C) "__getitem__" = some (some (.ref g))
  fn : PySem.W.isFn K (.ref g) = true
  it : PySem.W.fnIn K g = true
def rGetO (C : Addr) (sp : Sp) (E : XK) : R2 := fun x y H Q => ∃ (a dx : Addr) (fs : List (Str × V)), x = .ref a ∧ H a = some (.ins C dx fs) ∧ sp [.ref a, y] H Q E
theorem pe_getO {o i : Expr} {ta tb : TE} {pos : Pos} (c : GetC X.K C g) (F : FnOk X.prog X.w X.K X.mg X.base CX k g fd ps sp) (hb : Binds X.K fd ps []) (hr : Room (k + 1) X.A) (hx : Passes CX X E) (ha : PE X o ta) (hi : PE X i tb)
    (hsl : ∀ v u, subscripted i true v u = runValue (.builtin "lifetime.subscript" ⟨[v, u], []⟩) := by intros; rfl) : PE X (.Subscript o i pos) (tOp (rGetO C sp E) ta tb) := by
  refine ⟨fun pins s σ H Q I h => ?_⟩
  refine Subscript_ (binT ha hi I h fun v u s2 x y H2 I2 rx ry q => ?_)
  obtain ⟨a, dx, fs, rfl, hh, q⟩ := q
  cases rx
  obtain ⟨ox, od, J⟩ := inst_of I2 hh
  obtain ⟨m, hF⟩ := I2.fr
  refine PySem.W.sub_K hF I2.ok.mod.kin J c.at_ c.it c.fn ?_ (hsl _ _)
  exact run_under (us := [.ref a, u]) (vs := [.ref a, y]) F (sub_here hr).in1 hb hx I2 (.cons rfl (.cons ry .nil)) q
end
end My

set_option Elab.async false
set_option linter.all false
set_option maxRecDepth 100000
set_option maxHeartbeats 4000000
/-! ### enumerate(t), t a tuple -/
namespace My
open PySem PySem.Spec PyProof PyProof.Rows L2
set_option maxHeartbeats 1000000 in
theorem meets_enum1 {v : Value} {o : Obj} {H : Heap → Prop} (B : Begins v o H) :
    Meets (Builtin.«enumerate.__new__» ⟨[.type "enumerate", v], []⟩) (fun _ R s => H s.heap ∧
      R (.ok (.ret (.ref (s.heap.push o).objs.size))) { s with heap := (s.heap.push o).push { cls := .type "enumerate", data := .fields #[.none, .bool false, .ref s.heap.objs.size, rawInt 0, .none, .none] } }) :=
  .of_wp fun prog w A R s h => by
    obtain ⟨hp, g, d, tk, os⟩ := s; obtain ⟨h1, h⟩ := h
    have hsub := sub_enumerate
    have q1 : ∀ {A' : Around} {E : Value → Shared → Prop} {Q : Value → Shared → Prop}, Q (.ref hp.objs.size) ⟨hp.push o, g, d, tk, os⟩ → wpAny (model prog w) A' (pyIter v) Q E ⟨hp, g, d, tk, os⟩ :=
      fun q => B.iter prog w _ _ ⟨hp, g, d, tk, os⟩ _ h1 q
    wp_walk using q1
    refine wpAny_stack_any fun st => wpAny_pure ?_
    split
    · rename_i c _ _ _ _ _
      cases (c == Value.type "enumerate")
      · wp_walk using q1
        exact ⟨_, rfl, h⟩
      · wp_walk using q1
        exact ⟨_, rfl, h⟩
    · wp_walk using q1
      exact ⟨_, rfl, h⟩
section
variable {prog : Program} {w : World} {A : Around} {E : Value → Shared → Prop} {s : Shared}
theorem enum1_begins {v : Value} {o : Obj} {H : Heap → Prop} {Q : Value → Shared → Prop} (B : Begins v o H) (h1 : H s.heap)
    (h : ∀ h', IsEnum h' (s.heap.objs.size + 1) s.heap.objs.size 0 .none → h'.get? s.heap.objs.size = some o → h'.objs.size = s.heap.objs.size + 2 →
      (∀ b o, s.heap.get? b = some o → h'.get? b = some o) → Q (.ref (s.heap.objs.size + 1)) { s with heap := h' }) :
    wpAny (model prog w) A (call (.type "enumerate") [v]) Q E s := by
  refine callType_new F.called_enumerate (by decide) (F.typeCall_enumerate_1 _) (F.newCall_enumerate_1 _) (fun obj => F.args_object_init_2 obj _) F.entry_enumerate_new
    (meets_enum1 B) ⟨h1, ?_⟩
  have hz : (s.heap.push o).objs.size = s.heap.objs.size + 1 := Heap.size_push ..
  show _ ∧ _
  rw [hz]
  have he : IsEnum ((s.heap.push o).push { cls := .type "enumerate", data := .fields #[.none, .bool false, .ref s.heap.objs.size, rawInt 0, .none, .none] }) (s.heap.objs.size + 1) s.heap.objs.size 0 .none := by
    have := Heap.get?_push_size (s.heap.push o) (o := { cls := .type "enumerate", data := .fields #[.none, .bool false, .ref s.heap.objs.size, rawInt 0, .none, .none] }) rfl
    rw [hz] at this; exact this
  refine ⟨⟨_, he, rfl⟩, h _ he (Heap.get?_push_of_some _ (Heap.get?_push_size _ B.free)) (by rw [Heap.size_push, hz]) fun b o x => Heap.get?_push_of_some _ (Heap.get?_push_of_some _ x)⟩
end
/-- the tuple at a, each item in a new pair with its number -/
def IteT (K : PySem.W.Frag) (a : Addr) : It :=
  ⟨fun i H => ∃ (xs : List V) (x : V), SqT K H a xs ∧ xs[i]? = some x, fun i H v H' => ∃ T x, v = .ref T ∧ H T = none ∧ H' = upd H T (.tup [.int (i : Nat), x]) ∧ ∀ xs, SqT K H a xs → xs[i]? = some x, fun i H => ∃ xs : List V, SqT K H a xs ∧ xs.length ≤ i⟩
theorem turn_enumT {P : Program} {w : World} {K : PySem.W.Frag} {elts : List Expr} {kk : Nat} {tpos : Pos} (a e it : Addr) :
    Turn P w K (.Tuple elts kk tpos) (IteT K a) [e, it] e (fun i h => (∃ old, IsEnum h e it ((i : Nat) : Int) old) ∧ h.IsTupleIter it a i ∧ e ≠ it ∧ a ≠ it ∧ e ≠ a) where
  mem := by simp
  obj := fun i h st b hb => by
    obtain ⟨⟨old, he⟩, ⟨o, ho, hc, hd⟩, _⟩ := st
    have e' : b = e ∨ b = it := by simpa using hb
    rcases e' with z | z
    · rw [z]; exact ⟨_, he, fun v q => nomatch q⟩
    · rw [z]; exact ⟨o, ho, fun v q => by rw [hd] at q; cases q⟩
  keep := fun i h h' st k => let ⟨⟨old, he⟩, hi, hne⟩ := st; ⟨⟨old, k e (by simp) _ he⟩, hi.at fun o q => k it (by simp) o q, hne⟩
  item := by
    intro X hP hw hK hc i pins s σ H E I hf st hg
    subst hP hw hK
    obtain ⟨⟨old, he⟩, hit, hne, hai, hea⟩ := st
    obtain ⟨xs, x, hq, hx⟩ := hg
    obtain ⟨its, rv, p, hz⟩ := I.tuple hq
    obtain ⟨u, hu, ru⟩ := rv.get hx
    have hel : e < s.heap.objs.size := Heap.lt_size he
    have hil : it < s.heap.objs.size := by obtain ⟨_, q, _⟩ := hit; exact Heap.lt_size q
    have pt : s.heap.IsTuple a its.toArray := p
    have il : i < its.toArray.size := by rw [List.size_toArray]; exact (List.getElem?_eq_some_iff.mp hu).1
    refine wpAny_pyNext_enum_itemD (Draws.tuple (A := X.A.in1) (by simp [I.ok.hd hc]) it a hai its.toArray) he ⟨hit, pt⟩ il hne (by simp [hne, hea]) fun u' h' tk hPu ho hst' hT hsz hk => ?_
    have eu : u' = u := by
      rw [List.getElem?_toArray, hu] at hPu
      exact (Option.some.inj hPu).symm
    subst eu
    refine ⟨_, rfl, wpAny_letOwnedTupleGo_enum (s := { s with heap := h', toks := tk + 1 }) ho fun h'' he' sb => ?_⟩
    have hT2 : h''.get? s.heap.objs.size = some { cls := .type "tuple", data := .seq #[.int i tk, u'] } := (sb.2 _ (Nat.ne_of_gt hel)).trans hT
    have new : ObjOk X.prog X.w (upd H s.heap.objs.size (.tup [.int (i : Nat), x])) h'' s.heap.objs.size (.tup [.int (i : Nat), x]) :=
      ⟨by show 2 ≤ sizeLine; decide, [.int i tk, u'], .cons ⟨_, rfl⟩ (.cons ru .nil), ⟨_, hT2, rfl, _, rfl⟩⟩
    have I1 : Inv X pins σ (upd H s.heap.objs.size (.tup [.int (i : Nat), x])) { s with heap := h'', toks := tk + 1 } :=
      I.turnedNew (ch := [e, it]) (fun b ob hb q => (sb.2 b (fun z => hb (by simp [z]))).trans (hk b ob (fun z => hb (by simp [z])) (fun z => hb (by simp [z])) q)) hf (Nat.le_refl _) new
    refine ⟨.ref s.heap.objs.size, _, I1, rfl, ⟨_, x, rfl, I.hok.fresh (Nat.le_refl _), rfl, fun ys hy => by rw [I.tuple_inj hy hq]; exact hx⟩, ⟨⟨u', ?_⟩, hst'.1.at fun o q => (sb.2 it (Ne.symm hne)).trans q, hne, hai, hea⟩, fun b hb => ?_⟩
    · have e1 : ((i + 1 : Nat) : Int) = (i : Int) + 1 := by omega
      rw [e1]; exact he'
    · have hb' : b < s.heap.objs.size := by
        have e' : b = e ∨ b = it := by simpa using hb
        rcases e' with z | z
        · rw [z]; exact hel
        · rw [z]; exact hil
      rw [upd_ne (Nat.ne_of_lt hb')]
      exact (hf b hb).1
  done := by
    intro X hP hw hK hc i pins s σ H E I hf st hg
    subst hP hw hK
    obtain ⟨⟨old, he⟩, hit, hne, hai, hea⟩ := st
    obtain ⟨xs, hq, hx⟩ := hg
    obtain ⟨its, rv, p, hz⟩ := I.tuple hq
    obtain ⟨f0, f1, f2, f3, f4, f5⟩ := hf it (by simp)
    have hl := rv.length
    have pt : s.heap.IsTuple a its.toArray := p
    have no : its.toArray[i]? = none := by rw [List.getElem?_toArray]; exact List.getElem?_eq_none (by omega)
    have hh : X.A.in1.handled = none := by simp [I.ok.hd hc]
    have hT : s.TypeIs (.ref e) "enumerate" := ⟨_, he, rfl⟩
    unfold pyNext
    refine wpAny_bind (wpAny_attempt (wpAny_callSpecial?_slot (name := Str.ofString "__next__") hT PySem.F.slot_enumerate_next
      (wpAny_call_entry PySem.F.slot_enumerate_next hT PySem.F.entry_enumerate_next ?_ (PySem.F.args_enumerate_next_1 _))))
    show wpAny _ _ (field (.ref e) 2 >>= _) _ _ _
    refine wpAny_bind (wpAny_field he rfl (x := .ref it) rfl ?_)
    refine wpAny_bind (wpAny_nextOf_tuple_end hh hit pt no fun h' x eb hx' => ?_)
    obtain ⟨o, ho, hc'⟩ := hx'
    refine wpAny_bind (wpAny_isInstance (T := "StopIteration") (b := true) ⟨o, ho, hc'⟩ isSubtype_stop ?_)
    exact wpAny_pure ⟨rfl, I.turned (t' := s.toks) (fun b o hb q => eb b o hb q) f0 f1 f3 f4 f5⟩
  self := fun A i s Q E st h => let ⟨⟨_, he⟩, _⟩ := st; wpAny_pyIter_enum he h
def iEnumT (K : PySem.W.Frag) (ta : TA) : L2.TI := fun σ H R => ta σ H fun vs H1 => ∃ a xs, vs = [.ref a] ∧ SqT K H1 a xs ∧ R (IteT K a) H1
theorem pi_enumT {X : Cx} {e : Expr} {ta : TA} {p pos tpos : Pos} {elts : List Expr} {kk : Nat} (hg : Gl X "enumerate") (hm : X.mg "enumerate" = none) (ha : PA X [e] ta) (hs : starEach [e] X.env = [(false, eval e X.env)] := by rfl) :
    PI X (.Tuple elts kk tpos) (.Call (.Name "enumerate" p) [e] [] pos) (iEnumT X.K ta) := by
  refine ⟨fun pins s σ H R I h => ?_⟩
  refine Call_ (ld_blt I hg hm boot_enumerate (PyProof.Rows.callWith_type1 (thn (ha.run pos pins s σ H _ I h) fun us s1 ⟨vs, H1, I1, r1, q1⟩ => ?_) hs rfl))
  obtain ⟨a, xs, ex, hq, q⟩ := q1
  subst ex
  cases r1 with
  | cons r rr =>
    cases rr
    cases r
    obtain ⟨its, rv, p', hz⟩ := I1.tuple hq
    have pt : s1.heap.IsTuple a its.toArray := p'
    refine enum1_begins (begins_tuple a its.toArray) pt fun h' he hit hsz hk => wpAny_pyIter_enum he ?_
    have I2 : Inv X pins σ H1 { s1 with heap := h' } := I1.kept (t' := s1.toks) hk
    have al : a < s1.heap.objs.size := by obtain ⟨_, q, _⟩ := pt; exact Heap.lt_size q
    refine ⟨s1.heap.objs.size + 1, [s1.heap.objs.size + 1, s1.heap.objs.size], _, _, H1, rfl, I2, turn_enumT a (s1.heap.objs.size + 1) s1.heap.objs.size, ⟨⟨.none, he⟩, ⟨_, hit, rfl, rfl⟩, Nat.succ_ne_self _, Nat.ne_of_lt al, Nat.ne_of_gt (Nat.lt_succ_of_lt al)⟩, fun b hb => ?_, q⟩
    have e' : b = s1.heap.objs.size + 1 ∨ b = s1.heap.objs.size := by simpa using hb
    have hle : s1.heap.objs.size ≤ b := by
      rcases e' with z | z
      · rw [z]; exact Nat.le_add_right _ _
      · rw [z]; exact Nat.le_refl _
    exact I1.fpOk hle (I1.hok.fresh hle)
theorem walk_enumT {K : PySem.W.Frag} {a : Addr} {xs : List V} : Walk (IteT K a) xs.length (fun H => SqT K H a xs) (YPair (fun i => some (.int (i : Nat))) (fun i => xs[i]?)) := by
  refine ⟨fun i _ hi q => ⟨xs, xs[i], q, by simp [hi]⟩, fun _ q => ⟨xs, q, Nat.le_refl _⟩, fun i H v H' _ q y => ?_⟩
  obtain ⟨T, x, h1, h2, h3, h4⟩ := y
  exact ⟨T, .int (i : Nat), x, h1, h2, h3, rfl, h4 xs q⟩
end My

set_option Elab.async false
set_option linter.all false
set_option maxRecDepth 100000
set_option maxHeartbeats 4000000
/-! ### dicts whose keys are tuples of tuples (of ints, texts and None) -/
namespace My
open PySem L2
mutual
/-- the value v is the nested key k, its tuples as they stand in H -/
inductive NkAt (H : Hp) : V → NestedKey → Prop where
  | non : NkAt H .non .none
  | int (i : Int) : NkAt H (.int i) (.num i)
  | str (x : Str) : NkAt H (.str x) (.text x)
  | tup {a : Addr} {xs : List V} {ks : List NestedKey} (e : H a = some (.tup xs)) (h : NkAll H xs ks) : NkAt H (.ref a) (.tup ks)
inductive NkAll (H : Hp) : List V → List NestedKey → Prop where
  | nil : NkAll H [] []
  | cons {v : V} {k : NestedKey} {vs : List V} {ks : List NestedKey} (h : NkAt H v k) (t : NkAll H vs ks) : NkAll H (v :: vs) (k :: ks)
end
mutual
theorem NkAt.tp {H H' : Hp} (ht : ∀ b ys, H b = some (.tup ys) → H' b = some (.tup ys)) : ∀ {v : V} {k : NestedKey}, NkAt H v k → NkAt H' v k
  | _, _, .non => .non
  | _, _, .int i => .int i
  | _, _, .str x => .str x
  | _, _, .tup e h => .tup (ht _ _ e) (NkAll.tp ht h)
theorem NkAll.tp {H H' : Hp} (ht : ∀ b ys, H b = some (.tup ys) → H' b = some (.tup ys)) : ∀ {vs : List V} {ks : List NestedKey}, NkAll H vs ks → NkAll H' vs ks
  | _, _, .nil => .nil
  | _, _, .cons h t => .cons (NkAt.tp ht h) (NkAll.tp ht t)
end
mutual
theorem nk_is {P : Program} {w : World} {H : Hp} {h : Heap} (ok : HOk P w H h) : ∀ {v : V} {k : NestedKey} {u : Value}, NkAt H v k → RelV v u → NestedIs h k u
  | _, _, u, .non, r => by
    obtain rfl : u = Value.none := r
    exact .none
  | _, _, u, .int i, r => by
    obtain ⟨t, rfl⟩ := (show ∃ t, u = Value.int i t from r)
    exact .int i t
  | _, _, u, .str x, r => by
    obtain ⟨t, rfl⟩ := (show ∃ t, u = Value.str x t from r)
    exact .text x t
  | _, _, u, .tup (a := a) (xs := xs) e h, r => by
    obtain rfl : u = Value.ref a := r
    obtain ⟨_, its, rv, o, h1, h2, n, h3⟩ := (show ObjOk P w H _ a (.tup xs) from ok a _ e)
    exact .tup h1 h2 h3 (by simpa using nka_is ok h rv)
theorem nka_is {P : Program} {w : World} {H : Hp} {h : Heap} (ok : HOk P w H h) : ∀ {vs : List V} {ks : List NestedKey} {us : List Value}, NkAll H vs ks → Vals vs us → NestedAll h ks us
  | _, _, _, .nil, .nil => .nil
  | _, _, _, .cons a t, .cons r rs => .cons (nk_is ok a r) (nka_is ok t rs)
end
abbrev NE := NestedKey × Addr × V
/-- the entries as told, and as they stand -/
abbrev NRel (xs : List NE) (ys : List (NestedKey × Addr × Value)) : Prop := Paired (fun x y => y.1 = x.1 ∧ y.2.1 = x.2.1 ∧ RelV x.2.2 y.2.2) xs ys
def DnO (P : Program) (w : World) (d : Addr) (xs : List NE) : HO := .ext fun h => xs.length ≤ sizeLine ∧ (d == sysModules) = false ∧ ∃ o es ep ys, NRel xs ys ∧ h.get? d = some o ∧ o.ExactDict ∧ o.data = .dict es ep ∧ es.toList = ys.map (entryOfKey (nestedKind P w)) ∧ (ys.map (·.1)).Nodup
/-- the keys' tuples stand -/
def NKeys (H : Hp) (xs : List NE) : Prop := ∀ x ∈ xs, NkAt H (.ref x.2.1) x.1 ∧ x.1.depth ≤ 8
/-- at d a dict with the nested keys and values kvs (the empty one is of every kind) -/
def DnAt (P : Program) (w : World) (H : Hp) (d : Addr) (kvs : List (NestedKey × V)) : Prop := (H d = some (.dK []) ∧ kvs = []) ∨ ∃ xs, H d = some (DnO P w d xs) ∧ xs.map (fun x => (x.1, x.2.2)) = kvs ∧ NKeys H xs
def valN (kvs : List (NestedKey × V)) (k : NestedKey) : Option V := (kvs.find? fun p => decide (p.1 = k)).map (·.2)
def putN (kvs : List (NestedKey × V)) (k : NestedKey) (v : V) : List (NestedKey × V) := if (valN kvs k).isSome then kvs.map (fun p => if p.1 = k then (p.1, v) else p) else kvs ++ [(k, v)]
def putX (xs : List NE) (k : NestedKey) (a : Addr) (v : V) : List NE := if (valN (xs.map fun x => (x.1, x.2.2)) k).isSome then xs.map (fun x => if x.1 = k then (x.1, x.2.1, v) else x) else xs ++ [(k, a, v)]
theorem NRel.val {xs : List NE} {ys : List (NestedKey × Addr × Value)} (r : NRel xs ys) (k : NestedKey) : RelO (valN (xs.map fun x => (x.1, x.2.2)) k) ((atKey ys k).map (·.2)) := by
  induction r with
  | nil => exact True.intro
  | @cons x y xs ys h t ih =>
    unfold valN atKey at ih ⊢
    rw [List.map_cons, List.find?_cons, List.find?_cons]
    by_cases e : x.1 = k
    · rw [decide_eq_true e, decide_eq_true (h.1.trans e)]
      exact h.2.2
    · rw [decide_eq_false e, decide_eq_false (fun z => e (h.1.symm.trans z))]
      exact ih
theorem NRel.repl {xs : List NE} {ys : List (NestedKey × Addr × Value)} (r : NRel xs ys) (k : NestedKey) {v : V} {u : Value} (rv : RelV v u) : NRel (xs.map (fun x => if x.1 = k then (x.1, x.2.1, v) else x)) (ys.map (putAt k u)) := by
  induction r with
  | nil => exact .nil
  | @cons x y xs ys h t ih =>
    rw [List.map_cons, List.map_cons]
    refine .cons ?_ ih
    unfold putAt
    by_cases e : x.1 = k
    · rw [if_pos e, if_pos (h.1.trans e)]
      exact ⟨h.1, h.2.1, rv⟩
    · rw [if_neg e, if_neg (fun z => e (h.1.symm.trans z))]
      exact h
theorem NRel.put {xs : List NE} {ys : List (NestedKey × Addr × Value)} (r : NRel xs ys) (k : NestedKey) (a : Addr) {v : V} {u : Value} (rv : RelV v u) : NRel (putX xs k a v) (storedH ys k a u) := by
  have e : (valN (xs.map fun x => (x.1, x.2.2)) k).isSome = (atKey ys k).isSome := by
    rw [(r.val k).isSome_eq, Option.isSome_map]
  unfold putX storedH
  rw [e]
  by_cases q : (atKey ys k).isSome = true
  · rw [if_pos q, if_pos q]; exact r.repl k rv
  · rw [if_neg q, if_neg q]; exact Paired.snoc r ⟨rfl, rfl, rv⟩
theorem putX_kvs {xs : List NE} {k : NestedKey} {a : Addr} {v : V} : (putX xs k a v).map (fun x => (x.1, x.2.2)) = putN (xs.map fun x => (x.1, x.2.2)) k v := by
  unfold putX putN
  split
  · rw [List.map_map, List.map_map]
    refine List.map_congr_left fun x _ => ?_
    by_cases h : x.1 = k <;> simp [h]
  · simp
theorem putX_len (xs : List NE) (k : NestedKey) (a : Addr) (v : V) : (putX xs k a v).length ≤ xs.length + 1 := by
  unfold putX
  split
  · rw [List.length_map]; omega
  · simp
theorem NKeys.put {H : Hp} {xs : List NE} {k : NestedKey} {a : Addr} {v : V} (h : NKeys H xs) (hk : NkAt H (.ref a) k) (hd : k.depth ≤ 8) : NKeys H (putX xs k a v) := by
  intro x hx
  unfold putX at hx
  split at hx
  · obtain ⟨y, hy, rfl⟩ := List.mem_map.mp hx
    have := h y hy
    by_cases e : y.1 = k
    · rw [if_pos e]; exact this
    · rw [if_neg e]; exact this
  · rcases List.mem_append.mp hx with hx | hx
    · exact h x hx
    · rw [List.mem_singleton.mp hx]; exact ⟨hk, hd⟩
section
variable {P : Program} {w : World} {H : Hp} {h : Heap} {d : Addr} {kvs : List (NestedKey × V)}
theorem dn_rd (ok : HOk P w H h) (e : DnAt P w H d kvs) : kvs.length ≤ sizeLine ∧ (d == sysModules) = false ∧ Mut (H d) ∧ ∃ xs ys, xs.map (fun x => (x.1, x.2.2)) = kvs ∧ NKeys H xs ∧ NRel xs ys ∧ h.DictOfH (nestedKind P w) d ys := by
  rcases e with ⟨e, rfl⟩ | ⟨xs, e, rfl, hk⟩
  · obtain ⟨_, hd, vs, rel, o, es, ep, h1, h2, h3, h4, h5, h6⟩ := dk_of ok e
    refine ⟨Nat.zero_le _, hd, by rw [e]; exact True.intro, [], [], rfl, (fun _ h => nomatch h), .nil, o, es, ep, h1, h2, h3, ?_, (fun _ h => nomatch h), List.nodup_nil⟩
    cases rel
    generalize hl : es.toList = l at h5
    cases h5
    rfl
  · obtain ⟨⟨z, hd, o, es, ep, ys, r, h1, h2, h3, h4, h5⟩, _, _⟩ := (show ObjOk P w H h d (DnO P w d xs) from ok d _ e)
    refine ⟨by rw [List.length_map]; exact z, hd, by rw [e]; exact True.intro, xs, ys, rfl, hk, r, o, es, ep, h1, h2, h3, h4, fun y hy => ?_, h5⟩
    have all : ∀ {xs : List NE} {ys : List (NestedKey × Addr × Value)}, NRel xs ys → NKeys H xs → ∀ y ∈ ys, (nestedKind P w).is h y.1 y.2.1 := by
      intro xs ys q
      induction q with
      | nil => intro _ y hy; exact nomatch hy
      | @cons x y xs ys hq t ih =>
        intro hk y' hy
        rcases List.mem_cons.mp hy with e | hy
        · subst e
          have := hk x List.mem_cons_self
          rw [hq.1, hq.2.1]
          exact ⟨nk_is ok this.1 rfl, this.2⟩
        · exact ih (fun x hx => hk x (List.mem_cons_of_mem _ hx)) y' hy
    exact all r hk y hy
theorem dn_typeIs {s : Shared} (ok : HOk P w H s.heap) (e : DnAt P w H d kvs) : s.TypeIs (.ref d) "dict" := by
  obtain ⟨_, _, _, _, _, _, _, _, dd⟩ := dn_rd ok e
  exact dd.typeIs
theorem dn_new {H' : Hp} {h' : Heap} {xs : List NE} {ys : List (NestedKey × Addr × Value)} (z : xs.length ≤ sizeLine) (hd : (d == sysModules) = false) (r : NRel xs ys) (dd : h'.DictOfH (nestedKind P w) d ys) : ObjOk P w H' h' d (DnO P w d xs) := by
  obtain ⟨o, es, ep, h1, h2, h3, h4, _, h5⟩ := dd
  refine ⟨⟨z, hd, o, es, ep, ys, r, h1, h2, h3, h4, h5⟩, ⟨o, h1⟩, fun a b q k => ?_⟩
  obtain ⟨z, hd, o, es, ep, ys, r, h1, h2, h3, h4, h5⟩ := q
  exact ⟨z, hd, o, es, ep, ys, r, k o h1, h2, h3, h4, h5⟩
end
section
variable {X : Cx} {pins : List (Addr × Obj)} {σ : L2.St} {H : Hp} {s : Shared} {d a : Addr} {kvs : List (NestedKey × V)} {k : NestedKey} {v : V} {r : Value} {A : Around} {E : Value → Shared → Prop}
theorem n_key (I : Inv X pins σ H s) (hk : NkAt H (.ref a) k) (h8 : k.depth ≤ 8) : (nestedKind X.prog X.w).is s.heap k a := ⟨nk_is I.hok hk rfl, h8⟩
/-- k in d -/
theorem n_in {Q : Value → Shared → Prop} (hu : (nestedKind X.prog X.w).room A.in1) (I : Inv X pins σ H s) (e : DnAt X.prog X.w H d kvs) (hk : NkAt H (.ref a) k) (h8 : k.depth ≤ 8) (h : ∀ s', Inv X pins σ H s' → Q (.bool (valN kvs k).isSome) s') :
    wpAny (model X.prog X.w) A (compareOp .In (.ref a) (.ref d)) Q E s := by
  obtain ⟨z, hd, _, xs, ys, rfl, nk, rel, dd⟩ := dn_rd I.hok e
  refine wpAny_in_heap hu (n_key I hk h8) hd dd ?_
  have q := (rel.val k).isSome_eq
  rw [Option.isSome_map] at q
  rw [← q]
  exact h _ (I.tok _)
theorem n_notIn {Q : Value → Shared → Prop} (hu : (nestedKind X.prog X.w).room A.in1) (I : Inv X pins σ H s) (e : DnAt X.prog X.w H d kvs) (hk : NkAt H (.ref a) k) (h8 : k.depth ≤ 8) (h : ∀ s', Inv X pins σ H s' → Q (.bool (!(valN kvs k).isSome)) s') :
    wpAny (model X.prog X.w) A (compareOp .NotIn (.ref a) (.ref d)) Q E s := by
  obtain ⟨z, hd, _, xs, ys, rfl, nk, rel, dd⟩ := dn_rd I.hok e
  show wpAny _ _ (do return .bool (!(← contains (.ref d) (.ref a)))) Q E s
  refine wpAny_bind (wpAny_contains_heap hu (n_key I hk h8) hd dd (wpAny_pure ?_))
  have q := (rel.val k).isSome_eq
  rw [Option.isSome_map] at q
  rw [← q]
  exact h _ (I.tok _)
/-- d[k], there -/
theorem n_getItem {Q : Value → Shared → Prop} (hu : (nestedKind X.prog X.w).room A.in1) (I : Inv X pins σ H s) (e : DnAt X.prog X.w H d kvs) (hk : NkAt H (.ref a) k) (h8 : k.depth ≤ 8) (l : valN kvs k = some v) (h : ∀ w' s', Inv X pins σ H s' → RelV v w' → Q w' s') :
    wpAny (model X.prog X.w) A (getItem (.ref d) (.ref a)) Q E s := by
  obtain ⟨z, hd, _, xs, ys, rfl, nk, rel, dd⟩ := dn_rd I.hok e
  obtain ⟨w', hw, rw'⟩ := RelO.some_of (v := v) (o := (atKey ys k).map (·.2)) (by rw [← l]; exact rel.val k)
  obtain ⟨p, hp, hp2⟩ := Option.map_eq_some_iff.mp hw
  refine wpAny_getItem_heap hu (n_key I hk h8) dd hp ?_
  rw [hp2]
  exact h w' _ (I.tok _) rw'
theorem n_stored {h' : Heap} {t' : Nat} {xs : List NE} {ys : List (NestedKey × Addr × Value)} (I : Inv X pins σ H s) (mu : Mut (H d)) (hd : (d == sysModules) = false) (z : xs.length < sizeLine) (nk : NKeys H xs) (rel : NRel xs ys) (hk : NkAt H (.ref a) k) (h8 : k.depth ≤ 8) (rv : RelV v r)
    (dd : h'.DictOfH (nestedKind X.prog X.w) d (storedH ys k a r)) (hs : Heap.SameBut d s.heap h') : Inv X pins σ (upd H d (DnO X.prog X.w d (putX xs k a v))) { s with heap := h', toks := t' } ∧ DnAt X.prog X.w (upd H d (DnO X.prog X.w d (putX xs k a v))) d (putN (xs.map fun x => (x.1, x.2.2)) k v) := by
  have hl : (putX xs k a v).length ≤ sizeLine := by have := putX_len xs k a v; omega
  refine ⟨d_write I mu hs ?_ (dn_new hl hd (rel.put k a rv) dd), .inr ⟨_, upd_same, putX_kvs, fun x hx => ?_⟩⟩
  · obtain ⟨q, _, _, hq, _⟩ := dd
    exact ⟨q, hq⟩
  · obtain ⟨a1, a2⟩ := nk.put hk h8 (v := v) x hx
    refine ⟨a1.tp fun b ys e => ?_, a2⟩
    rw [upd_ne]
    · exact e
    · intro z
      subst z
      rw [e] at mu
      exact mu
/-- d[k] = v -/
theorem n_setItem {Q : Unit → Shared → Prop} (hu : (nestedKind X.prog X.w).room A.in1) (I : Inv X pins σ H s) (e : DnAt X.prog X.w H d kvs) (hk : NkAt H (.ref a) k) (h8 : k.depth ≤ 8) (hz : kvs.length < sizeLine) (rv : RelV v r)
    (h : ∀ ob s', DnAt X.prog X.w (upd H d ob) d (putN kvs k v) → Inv X pins σ (upd H d ob) s' → Q () s') : wpAny (model X.prog X.w) A (setItem (.ref d) (.ref a) r) Q E s := by
  obtain ⟨z, hd, mu, xs, ys, rfl, nk, rel, dd⟩ := dn_rd I.hok e
  rw [List.length_map] at hz
  have hl : ys.length ≤ sizeLine := by rw [← Paired.length rel]; omega
  refine wpAny_setItem_heap (hsz := hl) hu (n_key I hk h8) dd fun h' dd' hs => ?_
  obtain ⟨I', e'⟩ := n_stored I mu hd hz nk rel hk h8 rv dd' hs
  exact h _ _ e' I'
/-- d.setdefault(k, v) -/
theorem n_setdefault {Q : Value → Shared → Prop} (hu : (nestedKind X.prog X.w).room A.in1) (I : Inv X pins σ H s) (e : DnAt X.prog X.w H d kvs) (hk : NkAt H (.ref a) k) (h8 : k.depth ≤ 8) (hz : kvs.length < sizeLine) (rv : RelV v r)
    (h1 : ∀ v' w' s', valN kvs k = some v' → Inv X pins σ H s' → RelV v' w' → Q w' s')
    (h2 : valN kvs k = none → ∀ ob s', DnAt X.prog X.w (upd H d ob) d (putN kvs k v) → Inv X pins σ (upd H d ob) s' → Q r s') : wpAny (model X.prog X.w) A (call (.builtin "dict.setdefault") [.ref d, .ref a, r]) Q E s := by
  obtain ⟨z, hd, mu, xs, ys, rfl, nk, rel, dd⟩ := dn_rd I.hok e
  rw [List.length_map] at hz
  have hl : ys.length ≤ sizeLine := by rw [← Paired.length rel]; omega
  have rk := rel.val k
  refine call_setdefault_heap (hsz := hl) hu (n_key I hk h8) hd dd (fun p hp => ?_) fun hn h' dd' hs => ?_
  · rw [hp] at rk
    cases hv : valN (xs.map fun x => (x.1, x.2.2)) k with
    | none => rw [hv] at rk; exact False.elim rk
    | some v' =>
      rw [hv] at rk
      exact h1 v' p.2 _ hv (I.tok _) rk
  · rw [hn] at rk
    obtain ⟨I', e'⟩ := n_stored I mu hd hz nk rel hk h8 rv dd' hs
    refine h2 ?_ _ _ e' I'
    cases hv : valN (xs.map fun x => (x.1, x.2.2)) k with
    | none => rfl
    | some v' => rw [hv] at rk; exact False.elim rk
end
/-! ### readings and rules -/
/-- y is a nested key in H -/
def NKey (H : Hp) (y : V) (k : NestedKey) : Prop := ∃ a, y = .ref a ∧ NkAt H y k ∧ k.depth ≤ 8
/-- d[y] -/
def tNGet (P : Program) (w : World) (td ty : TE) : TE := fun σ H Q => td σ H fun x H1 => ty σ H1 fun y H2 => ∃ d kvs k v, x = .ref d ∧ DnAt P w H2 d kvs ∧ NKey H2 y k ∧ valN kvs k = some v ∧ Q v H2
/-- y in d, y not in d -/
def tNIn (P : Program) (w : World) (ty td : TE) : TE := fun σ H Q => ty σ H fun y H1 => td σ H1 fun x H2 => ∃ d kvs k, x = .ref d ∧ DnAt P w H2 d kvs ∧ NKey H2 y k ∧ Q (.bl (valN kvs k).isSome) H2
def tNNotIn (P : Program) (w : World) (ty td : TE) : TE := fun σ H Q => ty σ H fun y H1 => td σ H1 fun x H2 => ∃ d kvs k, x = .ref d ∧ DnAt P w H2 d kvs ∧ NKey H2 y k ∧ Q (.bl (!(valN kvs k).isSome)) H2
/-- d[y] = v -/
def sNPut (P : Program) (w : World) (td ty tv : TE) : TS := fun D σ H => tv σ H fun v H1 => td σ H1 fun x H2 => ty σ H2 fun y H3 => ∃ d kvs k, x = .ref d ∧ DnAt P w H3 d kvs ∧ NKey H3 y k ∧ kvs.length < sizeLine ∧ ∀ ob, DnAt P w (upd H3 d ob) d (putN kvs k v) → D.nx σ (upd H3 d ob)
/-- d.setdefault(y, v) -/
def tNDef (P : Program) (w : World) (td : TE) (ta : TA) : TE := fun σ H Q => td σ H fun x H1 => (∃ d kvs0, x = .ref d ∧ DnAt P w H1 d kvs0) ∧ ta σ H1 fun xs H2 => ∃ d kvs k y v, x = .ref d ∧ xs = [y, v] ∧ DnAt P w H2 d kvs ∧ NKey H2 y k ∧ kvs.length < sizeLine ∧
  (∀ v', valN kvs k = some v' → Q v' H2) ∧ (valN kvs k = none → ∀ ob, DnAt P w (upd H2 d ob) d (putN kvs k v) → Q v (upd H2 d ob))
theorem n_room {A : Around} (hu : A.units + 64 < cLine) {P : Program} {w : World} : (nestedKind P w).room A.in1 := by
  show A.units + 1 + 8 < cLine
  omega
section
variable {X : Cx} {o i e value : Expr} {pos pos' tpos : Pos} {td ty tv : TE}
theorem pe_nget (hu : X.A.units + 64 < cLine) (ho : PE X o td) (hi : PE X i ty) (hs : NoSl i) : PE X (.Subscript o i pos) (tNGet X.prog X.w td ty) := by
  refine ⟨fun pins s σ H Q I h => ?_⟩
  refine subD_of PySem.F.slot_dict_getitem.lookup hs (thn (ho.run pins s σ H _ I h) fun u s1 ⟨x, H1, I1, rx, q1⟩ => thn (hi.run pins s1 σ H1 _ I1 q1) fun iv s2 ⟨y, H2, I2, ry, d, kvs, k, v, ex, g, ⟨a, ey, hk, h8⟩, l, q2⟩ => ?_)
  subst ex ey
  obtain rfl : u = Value.ref d := rx
  obtain rfl : iv = Value.ref a := ry
  exact ⟨dn_typeIs I2.hok g, n_getItem (n_room hu) I2 g hk h8 l fun w' s3 I3 rw' => ⟨v, H2, I3, rw', q2⟩⟩
theorem pc_nin (hu : X.A.units + 64 < cLine) (hi : PE X i ty) (ho : PE X o td) : PC X .In i o (tNIn X.prog X.w ty td) := by
  refine ⟨fun pins s σ H Q I h => ?_⟩
  refine thn (hi.run pins s σ H _ I h) fun iv s1 ⟨y, H1, I1, ry, q1⟩ => thn (ho.run pins s1 σ H1 _ I1 q1) fun u s2 ⟨x, H2, I2, rx, d, kvs, k, ex, g, ⟨a, ey, hk, h8⟩, q2⟩ => ?_
  subst ex ey
  obtain rfl : u = Value.ref d := rx
  obtain rfl : iv = Value.ref a := ry
  exact n_in (n_room hu) I2 g hk h8 fun s3 I3 => ⟨.bl (valN kvs k).isSome, H2, I3, rfl, q2⟩
theorem pc_nnotin (hu : X.A.units + 64 < cLine) (hi : PE X i ty) (ho : PE X o td) : PC X .NotIn i o (tNNotIn X.prog X.w ty td) := by
  refine ⟨fun pins s σ H Q I h => ?_⟩
  refine thn (hi.run pins s σ H _ I h) fun iv s1 ⟨y, H1, I1, ry, q1⟩ => thn (ho.run pins s1 σ H1 _ I1 q1) fun u s2 ⟨x, H2, I2, rx, d, kvs, k, ex, g, ⟨a, ey, hk, h8⟩, q2⟩ => ?_
  subst ex ey
  obtain rfl : u = Value.ref d := rx
  obtain rfl : iv = Value.ref a := ry
  exact n_notIn (n_room hu) I2 g hk h8 fun s3 I3 => ⟨.bl (!(valN kvs k).isSome), H2, I3, rfl, q2⟩
theorem ps_nput (hu : X.A.units + 64 < cLine) (ho : PE X o td) (hi : PE X i ty) (hv : PE X value tv) (hs : swapsWith value (some (.Subscript o i pos')) pos.line X.env = pure false) :
    PS X (.Assign [.Subscript o i pos'] value pos) (sNPut X.prog X.w td ty tv) := by
  refine ⟨fun pins s σ H D I h => ?_⟩
  refine wpAny_Assign_Subscript (thn (hv.run pins s σ H _ I h) fun r s1 ⟨v, H1, I1, rv, q1⟩ => thn (ho.run pins s1 σ H1 _ I1 q1) fun u s2 ⟨x, H2, I2, rx, q2⟩ => thn (hi.run pins s2 σ H2 _ I2 q2) fun iv s3 ⟨y, H3, I3, ry, d, kvs, k, ex, g, ⟨a, ey, hk, h8⟩, hz, q3⟩ => ?_) hs
  subst ex ey
  obtain rfl : u = Value.ref d := rx
  obtain rfl : iv = Value.ref a := ry
  exact n_setItem (n_room hu) I3 g hk h8 hz rv fun ob s4 e4 I4 => ⟨σ, upd H3 d ob, I4, q3 ob e4⟩
theorem pe_ndef {es : List Expr} {t : TA} {apos cpos : Pos} (hu : X.A.units + 64 < cLine) (ho : PE X o td) (ha : PA X (e :: es) t)
    (hbase : attributeBase o "setdefault" X.env (eval o X.env) = eval o X.env := by rfl)
    (hfew : ((backTo cpos (starEach (e :: es) X.env)).all (fun x => !x.1) && (backToKw cpos (keywordEach [] X.env)).all (fun x => x.1.isSome)
      && decide ((e :: es).length + ([] : List Keyword).length + (if ([] : List Keyword).isEmpty then 0 else 1) < 30)) = true := by rfl)
    (hline : (apos.endLine == cpos.line) = true := by rfl) (hs : starEach (e :: es) X.env = (false, eval e X.env) :: starEach es X.env := by rfl) (hplain : (backTo cpos (starEach es X.env)).any (·.1) = false := by rfl) :
    PE X (.Call (.Attribute o "setdefault" apos) (e :: es) [] cpos) (tNDef X.prog X.w td t) := by
  refine ⟨fun pins s σ H Q I h => ?_⟩
  refine wpAny_Call_method_late hbase hfew hline rfl (thn (ho.run pins s σ H _ I h) fun v s1 ⟨x, H1, I1, r1, ⟨d, kvs0, ex, g0⟩, q1⟩ => ?_)
  subst ex
  obtain rfl : v = Value.ref d := r1
  have ty := dn_typeIs I1.hok g0
  have nd : ∀ b, Value.ref d = .ref b → ∃ ob, s1.heap.get? b = some ob ∧ ob.dict = none := fun b q => by
    cases q
    obtain ⟨_, _, _, _, _, _, _, _, ob, _, _, h1, h2, _⟩ := dn_rd I1.hok g0
    exact ⟨ob, h1, h2.2.1⟩
  refine ⟨"dict", "dict.setdefault", PySem.F.plainAttrs_dict, PySem.F.slot_dict_setdefault, PySem.F.type_dict_setdefault, ty, nd, ?_⟩
  have hA := ha.run cpos pins s1 σ H1 _ I1 q1
  rw [hs] at hA ⊢
  refine Calls.callWith_builtin (by show (false || (backTo cpos (starEach es X.env)).any (·.1)) = false; rw [hplain] <;> rfl) (Calls.evalArgs_plain ?_)
  refine thn hA fun us s2 ⟨vs, H2, I2, r2, d', kvs, k, y, v, ex, exs, g, ⟨a, ey, hk, h8⟩, hz, q2, q3⟩ => ?_
  cases ex
  subst exs ey
  obtain ⟨u1, u2, rfl, ra, rv⟩ := vals2 r2
  obtain rfl : u1 = Value.ref a := ra
  exact n_setdefault (n_room hu) I2 g hk h8 hz rv (fun v' w' s' hv I' r' => ⟨v', H2, I', r', q2 v' hv⟩) fun hn ob s' e' I' => ⟨v, _, I', rv, q3 hn ob e'⟩
/-- len(d) -/
def rLenN (P : Program) (w : World) : List V → Hp → VK → Prop := fun xs H Q => ∃ d kvs, xs = [.ref d] ∧ DnAt P w H d kvs ∧ Q (.int (kvs.length : Nat)) H
theorem call_lenN : CallR X (.builtin "len") (rLenN X.prog X.w) := by
  intro pins s σ H xs us Q I r h
  obtain ⟨d, kvs, rfl, g, q⟩ := h
  obtain ⟨u, rfl, ru⟩ := vals1 r
  obtain rfl : u = Value.ref d := ru
  obtain ⟨z, hd, _, es, ys, hk, _, rel, dd⟩ := dn_rd I.hok g
  have hl : (pairsH ys).length = kvs.length := by rw [pairsH_length, ← Paired.length rel, ← hk, List.length_map]
  have hm : s.heap.DictKeyed (nestedKind X.prog X.w) d (pairsH ys) := ⟨ys, dd, rfl⟩
  refine PyProof.Rows.call_len_slot (n := (pairsH ys).length) hm.typeIs PySem.F.slot_dict_len (fun Q' hq => len_keyed hd hm hq) (by omega) (by rw [hl]; rw [sizeLine_eq] at z; omega) ?_
  rw [hl]
  exact ⟨.int (kvs.length : Nat), H, I.tok _, ⟨_, rfl⟩, q⟩
end
end My

set_option Elab.async false
set_option linter.all false
set_option maxRecDepth 100000
set_option maxHeartbeats 4000000
/-! ### {k: v}, one pair, its key a tuple (of tuples) -/
namespace My
open PySem L2
/-- the new dict stands empty while the pair is made -/
def tDispN (P : Program) (w : World) (tk tv : TE) : TE := fun σ H Q => ∀ p, H p = none → tk σ (upd H p (.dK [])) fun x H1 => tv σ H1 fun y H2 => H2 p = some (.dK []) ∧ ∃ k, NKey H2 x k ∧ ∀ ob, DnAt P w (upd H2 p ob) p [(k, y)] → Q (.ref p) (upd H2 p ob)
theorem pe_dispN {X : Cx} {k v : Expr} {pos : Pos} {tk tv : TE} (hu : X.A.units + 64 < cLine) (hk : PE X k tk) (hv : PE X v tv) : PE X (.Dict [some k] [v] pos) (tDispN X.prog X.w tk tv) := by
  refine ⟨fun pins s σ H Q I q => ?_⟩
  have hn := I.hok.fresh (Nat.le_refl s.heap.objs.size)
  have I1 := I.laid (a := s.heap.objs.size) (o := .dK []) (h' := s.heap.push { cls := .type "dict", data := .dict #[] }) (t' := s.toks) (fun _ _ q => Heap.get?_push_of_some _ q) (Nat.le_refl _) (dk_empty s.heap I.big)
  have pp : PPs X pos [some k] [v] [(tk, tv)] := pps_cons hk hv pps_nil
  have len : (pairTrees [some k] [v] X.env pos).length = 1 := pairTrees_length [some k] [v] X.env pos rfl rfl
  rw [arm_eval_Dict, zip_pairTrees [some k] [v] X.env pos rfl rfl, dictDisplay_pairs _ (fun he => by rw [he] at len; cases len) (by omega)]
  refine wpAny_bind (wpAny_standAt (wpAny_bind (wpAny_subDictH (knd := nestedKind X.prog X.w) (by show X.A.units + 8 < cLine; omega) (by omega) (thn (pp.run pins _ σ _ (fun ps H3 => match ps with
    | [(kx, vx)] => H3 s.heap.objs.size = some (.dK []) ∧ ∃ k, NKey H3 kx k ∧ ∀ ob, DnAt X.prog X.w (upd H3 s.heap.objs.size ob) s.heap.objs.size [(k, vx)] → Q (.ref s.heap.objs.size) (upd H3 s.heap.objs.size ob)
    | _ => False) I1 (q _ hn)) fun ws s2 hq => ?_))))
  obtain ⟨ps, H3, I5, rel, qq⟩ := hq
  match ps, rel, qq with
  | [], _, qq => exact qq.elim
  | _ :: _ :: _, _, qq => exact qq.elim
  | [(kx, vx)], rel, qq =>
    obtain ⟨e2, key, ⟨a, rfl, hk, h8⟩, qf⟩ := qq
    cases rel with
    | @cons p q' ps qs hpq t =>
      cases t
      obtain ⟨u1, u2⟩ := q'
      obtain ⟨r1, r2⟩ := hpq
      obtain rfl : u1 = Value.ref a := r1
      obtain ⟨z, hd, mu, xs, ys, exs, nk, rel, dd⟩ := dn_rd (d := s.heap.objs.size) (kvs := []) I5.hok (.inl ⟨e2, rfl⟩)
      have exs : xs = [] := List.map_eq_nil_iff.mp exs
      subst exs
      cases rel
      refine ⟨[(key, a, u2)], ⟨rfl, rfl, n_key I5 hk h8, True.intro⟩, dd, fun h' tk dd' hs => ?_⟩
      obtain ⟨I', e'⟩ := n_stored (xs := []) (t' := tk) I5 mu hd (by rw [sizeLine_eq]; decide) nk .nil hk h8 r2 dd' hs
      exact wpAny_pure ⟨.ref s.heap.objs.size, _, I', rfl, qf _ e'⟩
end My

set_option Elab.async false
set_option linter.all false
set_option maxRecDepth 100000
set_option maxHeartbeats 4000000
/-! ### dicts keyed by tuples stand while other things change -/
namespace My
open PySem L2
theorem dn_kp {P : Program} {w : World} {H H' : Hp} {d : Addr} {kvs : List (NestedKey × V)} (h : DnAt P w H d kvs) (k : Kp [] H H') : DnAt P w H' d kvs := by
  rcases h with ⟨a, b⟩ | ⟨xs, a, b, c⟩
  · exact .inl ⟨k _ _ not0 a, b⟩
  · exact .inr ⟨xs, k _ _ not0 a, b, fun x hx => ⟨(c x hx).1.tp fun b ys e => k _ _ not0 e, (c x hx).2⟩⟩
theorem dn_wr {P : Program} {w : World} {H : Hp} {d l : Addr} {us ws : List V} {kvs : List (NestedKey × V)} (h : DnAt P w H d kvs) (hl : H l = some (.lst us)) (ne : d ≠ l) : DnAt P w (upd H l (.lst ws)) d kvs := by
  rcases h with ⟨a, b⟩ | ⟨xs, a, b, c⟩
  · exact .inl ⟨by rw [upd_ne ne]; exact a, b⟩
  · refine .inr ⟨xs, by rw [upd_ne ne]; exact a, b, fun x hx => ⟨(c x hx).1.tp fun b ys e => ?_, (c x hx).2⟩⟩
    rw [upd_ne (fun z => by rw [z, hl] at e; cases e)]
    exact e
theorem nodup_lenP {α : Type} [DecidableEq α] : ∀ {l m : List α}, l.Nodup → (∀ x ∈ l, x ∈ m) → l.length ≤ m.length
  | [], _, _, _ => Nat.zero_le _
  | x :: l, m, h, s => by
    rw [List.nodup_cons] at h
    have hx := s x (by simp)
    have ih := nodup_lenP (l := l) (m := m.erase x) h.2 fun y hy => (List.mem_erase_of_ne (fun e => h.1 (by rw [← e]; exact hy))).mpr (s y (by simp [hy]))
    rw [List.length_erase_of_mem hx] at ih
    have : 0 < m.length := List.length_pos_of_mem hx
    rw [List.length_cons]; omega
section
variable {P : Program} {w : World} {H : Hp} {bd : Addr}
theorem dn_nl {kvs : List (NestedKey × V)} (h : DnAt P w H bd kvs) {b : Addr} {us : List V} (e : H b = some (.lst us)) : b ≠ bd := fun z => by
  subst z
  rcases h with ⟨a, _⟩ | ⟨_, a, _⟩ <;> (rw [e] at a; cases a)
theorem dn_nt {kvs : List (NestedKey × V)} (h : DnAt P w H bd kvs) {b : Addr} {us : List V} (e : H b = some (.tup us)) : b ≠ bd := fun z => by
  subst z
  rcases h with ⟨a, _⟩ | ⟨_, a, _⟩ <;> (rw [e] at a; cases a)
theorem dn_wd {d s : Addr} {kvs ks : List (NestedKey × V)} {ob : HO} (h : DnAt P w H d kvs) (hs : DnAt P w H s ks) (ne : d ≠ s) : DnAt P w (upd H s ob) d kvs := by
  rcases h with ⟨a, b⟩ | ⟨xs, a, b, nk⟩
  · exact .inl ⟨by rw [upd_ne ne]; exact a, b⟩
  · refine .inr ⟨xs, by rw [upd_ne ne]; exact a, b, fun x hx => ?_⟩
    obtain ⟨a1, a2⟩ := nk x hx
    exact ⟨a1.tp fun b ys e => by rw [upd_ne (dn_nt hs e)]; exact e, a2⟩
theorem valN_notK {kvs : List (NestedKey × V)} {k : NestedKey} (h : k ∉ kvs.map (·.1)) : valN kvs k = none := by
  unfold valN
  rw [Option.map_eq_none_iff, List.find?_eq_none]
  intro p hp
  simp
  intro z
  exact h (by rw [← z]; exact List.mem_map_of_mem hp)
theorem valN_inK {kvs : List (NestedKey × V)} {k : NestedKey} (h : k ∈ kvs.map (·.1)) : (valN kvs k).isSome = true := by
  unfold valN
  obtain ⟨p, hp, e⟩ := List.mem_map.mp h
  rw [Option.isSome_map, List.find?_isSome]
  exact ⟨p, hp, by simpa using e⟩
theorem valN_isK {kvs : List (NestedKey × V)} {k : NestedKey} : (valN kvs k).isSome = decide (k ∈ kvs.map (·.1)) := by
  by_cases h : k ∈ kvs.map (·.1)
  · rw [valN_inK h, decide_eq_true h]
  · rw [valN_notK h, decide_eq_false h]; rfl
theorem putN_keys {kvs : List (NestedKey × V)} {k : NestedKey} {v : V} : (putN kvs k v).map (·.1) = if k ∈ kvs.map (·.1) then kvs.map (·.1) else kvs.map (·.1) ++ [k] := by
  unfold putN
  rw [valN_isK]
  by_cases h : k ∈ kvs.map (·.1)
  · rw [decide_eq_true h, if_pos rfl, if_pos h, List.map_map]
    refine List.map_congr_left fun p _ => ?_
    show (if p.1 = k then (p.1, v) else p).1 = p.1
    split <;> rfl
  · rw [decide_eq_false h, if_neg (by decide), if_neg h, List.map_append]
    rfl
end
end My

set_option Elab.async false
set_option linter.all false
/-! int(x), folded (as Tq's rInt1, under a name of its own) -/
namespace My
open PySem L2
def rIv : List V → Hp → VK → Prop := fun xs H Q => (∃ i, xs = [V.int i] ∧ Q (V.int i) H) ∨ ∃ k, xs = [V.bl k] ∧ Q (V.int (if k = true then 1 else 0)) H
theorem rIv_int {i : Int} {H : Hp} {Q : VK} : rIv [V.int i] H Q = Q (V.int i) H := by
  unfold rIv
  exact propext ⟨fun h => by rcases h with ⟨j, e, q⟩ | ⟨k, e, _⟩ <;> cases e; exact q, fun q => .inl ⟨i, rfl, q⟩⟩
theorem rIv_bl {k : Bool} {H : Hp} {Q : VK} : rIv [V.bl k] H Q = Q (V.int (if k = true then 1 else 0)) H := by
  unfold rIv
  exact propext ⟨fun h => by rcases h with ⟨j, e, _⟩ | ⟨k, e, q⟩ <;> cases e; exact q, fun q => .inr ⟨k, rfl, q⟩⟩
end My

set_option Elab.async false
set_option linter.all false
set_option maxRecDepth 100000
set_option maxHeartbeats 4000000
/-! ### a text times an int -/
namespace My
open PySem PySem.Spec PyProof PyProof.Rows L2
def rMulS : R2 := fun x y H Q => ∃ (z : Str) (k : Int), x = .str z ∧ y = .int k ∧ MulOk z k ∧ Q (.str (Txt.mul z k)) H
theorem op_mulS {X : Cx} : OpR X (binaryOp .Mult) rMulS := by
  rintro pins s σ H x y v u Q I rx ry ⟨z, k, rfl, rfl, ok, q⟩
  obtain ⟨t, rfl⟩ := rx
  obtain ⟨t2, rfl⟩ := ry
  exact SB.mul ok fun t' tk => ⟨.str _, H, I.tok _, ⟨t', rfl⟩, q⟩
end My

set_option Elab.async false
set_option linter.all false
set_option maxRecDepth 100000
set_option maxHeartbeats 4000000
/-! ### displays of data: what an expression gives, read off its form -/
namespace My
open PySem L2
/-- te gives a value of the data d, and what stood stands -/
def DE (te : TE) (σ : L2.St) (H0 : Hp) (d : PyData) : Prop := ∀ H1, Kp [] H0 H1 → ∀ Q : VK, (∀ v H2, Kp [] H1 H2 → Dq H2 v d → Q v H2) → te σ H1 Q
def DA (ta : TA) (σ : L2.St) (H0 : Hp) (ds : List PyData) : Prop := ∀ H1, Kp [] H0 H1 → ∀ Q : List V → Hp → Prop, (∀ vs H2, Kp [] H1 H2 → DqAll H2 vs ds → Q vs H2) → ta σ H1 Q
section
variable {σ : L2.St} {H0 : Hp} {te tf : TE} {ta : TA} {d : PyData} {ds es : List PyData}
theorem de_int {i : Int} : DE (tC (.int i)) σ H0 (.int i) := fun H1 _ Q h => h _ _ (Kp.refl _ _) (.int i)
theorem de_str {z : Str} : DE (tC (.str z)) σ H0 (.str z) := fun H1 _ Q h => h _ _ (Kp.refl _ _) (.str z)
theorem de_bl {b : Bool} : DE (tC (.bl b)) σ H0 (.bool b) := fun H1 _ Q h => h _ _ (Kp.refl _ _) (.bl b)
theorem de_non : DE (tC .non) σ H0 .none := fun H1 _ Q h => h _ _ (Kp.refl _ _) .non
theorem de_neg {i : Int} : DE (tUn (rU fun i => V.int (-i)) (tC (.int i))) σ H0 (.int (-i)) := fun H1 _ Q h => ⟨i, rfl, h _ _ (Kp.refl _ _) (.int _)⟩
theorem de_var {i : Nat} {v : V} (e : σ[i]? = some (some v)) (hd : Dq H0 v d) : DE (tVar i) σ H0 d := fun H1 k Q h => ⟨v, e, h _ _ (Kp.refl _ _) (Dq.kp k hd)⟩
theorem da_nil : DA tNil σ H0 [] := fun H1 _ Q h => h _ _ (Kp.refl _ _) .nil
theorem da_cons (a : DE te σ H0 d) (b : DA ta σ H0 ds) : DA (tCons te ta) σ H0 (d :: ds) := fun H1 k Q h => a H1 k _ fun v H2 k2 hv => b H2 (k.trans k2) _ fun vs H3 k3 hvs => h _ _ (k2.trans k3) (.cons (Dq.kp k3 hv) hvs)
theorem de_tup (a : DA ta σ H0 ds) (l : ds.length ≤ 1000 := by decide) : DE (tTup ta) σ H0 (.tuple ds) := fun H1 k Q h => a H1 k _ fun vs H2 k2 hvs => ⟨by rw [hvs.len, sizeLine_eq]; omega, fun p np => h _ _ (k2.trans (Kp.new np)) (.tup upd_same (DqAll.kp (Kp.new np) hvs))⟩
theorem de_lst (a : DA ta σ H0 ds) (l : ds.length ≤ 1000 := by decide) : DE (tLst ta) σ H0 (.list ds) := fun H1 k Q h => a H1 k _ fun vs H2 k2 hvs => ⟨by rw [hvs.len, sizeLine_eq]; omega, fun p np => h _ _ (k2.trans (Kp.new np)) (.lst upd_same (DqAll.kp (Kp.new np) hvs))⟩
/-- list + list -/
theorem de_cat (a : DE te σ H0 (.list ds)) (b : DE tf σ H0 (.list es)) (l : ds.length ≤ 1000) (l2 : es.length ≤ 1000) : DE (tOp rCat te tf) σ H0 (.list (ds ++ es)) := fun H1 k Q h => a H1 k _ fun v H2 k2 hv => b H2 (k.trans k2) _ fun u H3 k3 hu => by
  have hv3 := Dq.kp k3 hv
  cases hv3 with
  | @lst p xs _ e1 h1 =>
    cases hu with
    | @lst q ys _ e2 h2 =>
      refine ⟨p, q, xs, ys, rfl, rfl, e1, e2, by rw [h1.len, h2.len, sizeLine_eq]; omega, fun r nr => h _ _ ((k2.trans k3).trans (Kp.new nr)) (.lst upd_same ?_)⟩
      have app : ∀ {as bs : List PyData} {us vs : List V}, DqAll H3 us as → DqAll H3 vs bs → DqAll H3 (us ++ vs) (as ++ bs) := by
        intro as
        induction as with
        | nil => intro bs us vs h h'; cases h; exact h'
        | cons a as ih => intro bs us vs h h'; cases h with
          | cons x t => exact .cons x (ih t h')
      exact DqAll.kp (Kp.new nr) (app h1 h2)
/-- t[j], t a name of a tuple -/
theorem de_ix {K : PySem.W.Frag} {i : Nat} {j : Nat} {t : Addr} {xs : List V} {x : V} (e : σ[i]? = some (some (.ref t))) (ht : H0 t = some (.tup xs)) (ej : xs[j]? = some x) (hd : Dq H0 x d) : DE (tOp (rIxT K) (tVar i) (tC (.int (j : Nat)))) σ H0 d := fun H1 k Q h =>
  ⟨.ref t, e, t, xs, (j : Nat), x, rfl, rfl, sq_t (k _ _ not0 ht), atI_nat ej, h _ _ (Kp.refl _ _) (Dq.kp k hd)⟩
/-- tuple + tuple, neither empty -/
theorem de_catA {K : PySem.W.Frag} (a : DE te σ H0 (.tuple ds)) (b : DE tf σ H0 (.tuple es)) (l : ds.length ≤ 1000) (l2 : es.length ≤ 1000) (n1 : ds ≠ []) (n2 : es ≠ []) : DE (tOp (rCatA K) te tf) σ H0 (.tuple (ds ++ es)) := fun H1 k Q h => a H1 k _ fun v H2 k2 hv => b H2 (k.trans k2) _ fun u H3 k3 hu => by
  have hv3 := Dq.kp k3 hv
  cases hv3 with
  | @tup p xs _ e1 h1 =>
    cases hu with
    | @tup q ys _ e2 h2 =>
      have m1 : xs ≠ [] := fun z => by have := h1.len; rw [z] at this; exact n1 (List.eq_nil_of_length_eq_zero this.symm)
      have m2 : ys ≠ [] := fun z => by have := h2.len; rw [z] at this; exact n2 (List.eq_nil_of_length_eq_zero this.symm)
      refine ⟨p, q, xs, ys, rfl, rfl, sq_t e1, sq_t e2, by rw [h1.len, h2.len, sizeLine_eq]; omega, fun z => absurd z m1, fun _ z => absurd z m2, fun _ _ r nr => h _ _ ((k2.trans k3).trans (Kp.new nr)) (.tup upd_same ?_)⟩
      have app : ∀ {as bs : List PyData} {us vs : List V}, DqAll H3 us as → DqAll H3 vs bs → DqAll H3 (us ++ vs) (as ++ bs) := by
        intro as
        induction as with
        | nil => intro bs us vs h h'; cases h; exact h'
        | cons a as ih => intro bs us vs h h'; cases h with
          | cons x t => exact .cons x (ih t h')
      exact DqAll.kp (Kp.new nr) (app h1 h2)
/-- list(t), t a name of a tuple -/
theorem de_list {K : PySem.W.Frag} (a : DE te σ H0 (.tuple ds)) : DE (tCB (fun xs H Q => ∃ p ys, xs = [V.ref p] ∧ (SqL K H p ys ∨ SqT K H p ys) ∧ ∀ (l : Addr), H l = none → Q (V.ref l) (upd H l (HO.lst ys))) (tCons te tNil)) σ H0 (.list ds) := fun H1 k Q h => a H1 k _ fun v H2 k2 hv => by
  cases hv with
  | @tup p xs _ e1 h1 => exact ⟨p, xs, rfl, .inr (sq_t e1), fun l nl => h _ _ (k2.trans (Kp.new nl)) (.lst upd_same (DqAll.kp (Kp.new nl) h1))⟩
end
end My

set_option Elab.async false
set_option linter.all false
set_option maxRecDepth 100000
set_option maxHeartbeats 4000000
/-! ### own errors without fields: C(), raised, caught, asked -/
namespace My
open PySem PySem.Spec PyProof.Rows L2
/-- __init__ of an error without fields: what it promises -/
def spErr0 (C : Addr) : Sp := fun vs H Q _ => ∃ a : Addr, vs = [.ref a] ∧ H a = some (exo a C none) ∧ Q .non H
theorem bare_end {X : Cx} {pins : List (Addr × Obj)} {σ : L2.St} {H1 : Hp} {hp hp2 h2 : Heap} {g1 g2 : Array GenState} {d1 d2 : Drawn} {t1 t2 : Nat} {os1 os2 : OsState} {a C : Addr} (I1 : Inv X pins σ H1 ⟨hp, g1, d1, t1, os1⟩)
    (ha : hp.objs.size ≤ a) (k : ∀ b o, hp.get? b = some o → hp2.get? b = some o) (un : Un (frs X.stack) [] (upd H1 a (exo a C none)) (upd H1 a (exo a C none)) hp2 h2) (hok : HOk X.prog X.w (upd H1 a (exo a C none)) h2) (ho : os2 = os1) (hb : AllBare g2) :
    ∃ (t0 : Addr) (G : Heap), Inv X pins σ H1 ⟨G, g2, d2, t2, os2⟩ ∧ (∀ b o, G.get? b = some o → h2.get? b = some o) ∧ G.get? a = none ∧
      h2.get? a = some ({ cls := .ref C, dict := none, data := .fields #[.ref t0, .none, .none, .none, .bool false, .none] } : Obj) ∧ H1 a = none := by
  have ea : (upd H1 a (exo a C none)) a = some (exo a C none) := upd_same
  obtain ⟨t0, hoe⟩ := exo_at hok ea
  have hn : H1 a = none := I1.hok.fresh ha
  obtain ⟨G, g1', g2'⟩ := restrict h2 fun b => decide (b ≠ a)
  have gk : ∀ b, b ≠ a → G.get? b = h2.get? b := fun b hb => g1' b (decide_eq_true hb)
  have ge : G.get? a = none := g2' a (by simp)
  have nha : ∀ {b : Addr} {o : Obj}, hp.get? b = some o → b ≠ a := fun {b o} z => Nat.ne_of_lt (Nat.lt_of_lt_of_le (Heap.lt_size z) ha)
  have up : ∀ {b : Addr}, b ≠ a → H1 b = none → upd H1 a (exo a C none) b = none := fun {b} hb n => by rw [upd_ne hb]; exact n
  have U : Un (frs X.stack) [] H1 H1 hp G := {
    keep := fun b o z n hf hx => by rw [gk b (nha z)]; exact un.keep b o (k b o z) (up (nha z) n) hf hx
    slot := fun b o z n hf hx => by rw [gk b (nha z)]; exact un.slot b o (k b o z) (up (nha z) n) hf hx
    free := fun b o z n hx => n
    there := fun b o z hx => by rw [gk b (nha z)]; exact un.there b o (k b o z) hx
    tups := fun b xs z => z
    frzs := fun b o v z => z
    tbls := fun b ps z => ⟨#[], by rw [z]; simp⟩ }
  have hok3 : HOk X.prog X.w H1 G := fun b o z => by
    have hba : b ≠ a := ne_of_none z hn
    have z2 : (upd H1 a (exo a C none)) b = some o := by rw [upd_ne hba]; exact z
    have noa : ∀ {c : Addr}, (upd H1 a (exo a C none)) c = some (.own b) → c ≠ a := fun {c} hc => at_ne ea hc exo_own
    exact (hok b o z2).stay (fun c v hc y => by
        have hca : c ≠ a := by
          rcases hc with hc | hc
          · rw [hc]; exact hba
          · exact noa hc
        rw [gk c hca]; exact y)
      (fun c hc => by have z := hc; rw [upd_ne (noa hc)] at z; exact z) (fun c xs hc => by have z := hc; rw [upd_ne (at_ne ea hc exo_tup)] at z; exact z)
  have J : Inv X pins σ H1 ⟨G, g2, d2, t2, os2⟩ := I1.call' (ch := []) ho U hok3 hb (fun b z => absurd z (by simp))
  refine ⟨t0, G, J, fun b o z => ?_, ge, hoe, hn⟩
  by_cases hba : b = a
  · rw [hba, ge] at z; cases z
  · exact (gk b hba).symm.trans z
theorem pmk_oex0 {X : Cx} {CX : CXT} {x : Str} {C fI : Addr} {k : Nat} {fd : FuncData} {ps : List Str} {p pos : Pos} (T : OexC X.K C) (iC : PySem.W.findIn X.K (.ref C) "__init__" = some (some (.ref fI))) (tI : PySem.W.typeIn X.K (.ref fI) = some (.type "function"))
    (F1 : FnOk X.prog X.w X.K X.mg X.base CX k fI fd ps (spErr0 C)) (hr : Room (k + 1) X.A) (hb : Binds X.K fd ps []) (hx : Passes CX X (fun _ _ _ => False)) (hg : Gl X x) (hm : X.mg x = some (.ref C))
    (hdb : (x == ("__debug__" : Str)) = false := by decide) : PMk X (.Call (.Name x p) [] [] pos) (fun _ H Q => Q (.ref C) none H) := by
  intro pins s σ H Q I h
  obtain ⟨nm, q, N, bs, bm, sn, sub, ab, col, dd, k0, k1, k2, k3, k5, hC, hbm⟩ := T.cls
  refine wpAny_Call_Name_kw (ld_glob I hg hm ?_ hdb)
  refine PySem.W.callWith_K0 I.kIn T.kC ?_
  show wpAny _ _ (call (.ref C) []) _ _ _
  obtain ⟨hp, g, dr, tk, os⟩ := s
  have hsz : hp.objs.size ≤ hp.objs.size + 1 := Nat.le_succ _
  have kk : ∀ b o, hp.get? b = some o → ((hp.push (PySem.W.kdv_tup [])).push (PySem.HandSPX.excO C hp.objs.size)).get? b = some o := fun b o e => Heap.get?_push_of_some _ (Heap.get?_push_of_some _ e)
  have there : ((hp.push (PySem.W.kdv_tup [])).push (PySem.HandSPX.excO C hp.objs.size)).get? (hp.objs.size + 1) = some (PySem.HandSPX.excO C hp.objs.size) := by heap_get
  have I2 : Inv X pins σ (upd H (hp.objs.size + 1) (exo (hp.objs.size + 1) C none)) ⟨(hp.push (PySem.W.kdv_tup [])).push (PySem.HandSPX.excO C hp.objs.size), g, dr, tk, os⟩ :=
    I.laid (t' := tk) (a := hp.objs.size + 1) (o := exo (hp.objs.size + 1) C none) (h' := (hp.push (PySem.W.kdv_tup [])).push (PySem.HandSPX.excO C hp.objs.size)) kk hsz (exo_ok there)
  have hq : spErr0 C [V.ref (hp.objs.size + 1)] (upd H (hp.objs.size + 1) (exo (hp.objs.size + 1) C none)) (fun v H2 => v = .non ∧ H2 = upd H (hp.objs.size + 1) (exo (hp.objs.size + 1) C none)) (fun _ _ _ => False) := ⟨_, rfl, upd_same, rfl, rfl⟩
  have r2 : Vals [V.ref (hp.objs.size + 1)] [Value.ref (hp.objs.size + 1)] := .cons rfl .nil
  have hl : ([Value.ref (hp.objs.size + 1)] ++ []).length = ps.length := (F1.len _ _ _ _ hq)
  refine wpAny_call (PySem.HandSPX.call_own F.excBase_ValueError (fun Y => PySem.HandSPX.refsVE_contains Y bm hbm) (I.kIn _ _ hC) (PySem.W.looks_findIn I.kIn iC) (fun self => PySem.W.bind_fn I.kIn self tI) (Nat.zero_le _)
    (codeAny_mono (F1.run _ X.stack _ _ ⟨[Value.ref (hp.objs.size + 1)], []⟩ [Value.ref (hp.objs.size + 1)] _ _ (fun _ _ _ => False) (hr.make C [] []) (I2.env0.make C [] []) (hb _ [Value.ref (hp.objs.size + 1)] I2.kIn hl) r2 hq) fun r s' hq' => ?_))
  cases r with
  | error er => exact hx pins σ _ _ er s' I2 hq'
  | ok fl =>
    cases fl with
    | ret u =>
      obtain ⟨v, H2, os2, bare2, un2, hok2, rv, ev, e2⟩ := hq'
      subst ev
      subst e2
      obtain ⟨h2, g2, d2, t2, os'⟩ := s'
      obtain ⟨t0, G, J, kG, ge, hoe, na⟩ := bare_end (d2 := d2) (t2 := t2) I hsz kk un2 hok2 os2 bare2
      exact ⟨rv, _, _, _, ⟨G, g2, d2, t2, os'⟩, _, .ref C, none, rfl, J, kG, ge, hoe, ⟨rfl, rfl⟩, rfl, rfl, na, rfl, bare2, raises_own T.exC T.tyC, h⟩
    | next => exact False.elim hq'
    | brk => exact False.elim hq'
    | cont => exact False.elim hq'
/-- isinstance(e, c), e the error without a dict that the suite holds -/
def rIsX0 (K : PySem.W.Frag) (a : Addr) (cls : Value) (d : Option Addr) : List V → Hp → VK → Prop := fun xs H Q => ∃ (c : V) (cv : Value) (b : Bool) (D : Addr), xs = [.ref a, c] ∧ (∀ u, RelV c u → u = cv) ∧ cls = .ref D ∧ d = none ∧ ExcC K D ∧ PySem.W.kitOne K (.ref D) cv = some b ∧ Q (.bl b) H
theorem call_isX0 {X : Cx} {a : Addr} {oe : Obj} {cls : Value} {d : Option Addr} {pn : List (Addr × Obj)} (hz : Zc cls d oe) (hf : ∃ vs, oe.data = .fields vs) : CallR (X.suite a ((a, oe) :: pn)) (.builtin "isinstance") (rIsX0 X.K a cls d) := by
  intro pins s σ H xs us Q I r h
  obtain ⟨c, cv, b, D, e, hcv, rfl, rfl, C, k, q⟩ := h
  exact call_isE C hz hf pins s σ H xs us Q I r ⟨c, cv, b, e, hcv, k, q⟩
structure Er0 (P : Program) (w : World) (K : PySem.W.Frag) (mg : Str → Option Value) (base : Heap) (nm : Str) (C f : Addr) (fd : FuncData) (ps : List Str) : Prop where
  k : mg nm = some (.ref C)
  ox : OexC K C
  ic : PySem.W.findIn K (.ref C) "__init__" = some (some (.ref f))
  ti : PySem.W.typeIn K (.ref f) = some (.type "function")
  b : Binds K fd ps []
  G : FnOk P w K mg base (L2.CX P w) 1 f fd ps (spErr0 C)
end My

set_option Elab.async false
set_option linter.all false
set_option maxRecDepth 100000
set_option maxHeartbeats 4000000
/-! ### x op y of own instances within a try -/
namespace My
open PySem PySem.Spec PyProof.Rows L2
def tOpS (C : Addr) (sp : Sp) (E : L2.St → XK) (ta tb : TE) : TE := fun σ H Q => ta σ H fun x H1 => tb σ H1 fun y H2 => rBinO C sp (E σ) x y H2 Q
section
variable {X : Cx} {CX : CXT} {C g : Addr} {fd : FuncData} {ps : List Str} {sp : Sp} {E : L2.St → XK} {k : Nat} {a b : Expr} {ta tb : TE} {pos : Pos}
theorem pe_opS {op : Operator} (c : BinC X.K C g op) (F : FnOk X.prog X.w X.K X.mg X.base CX k g fd ps sp) (hb : Binds X.K fd ps []) (hr : Room k X.A) (hx : ∀ σ, PassesAt CX X σ (E σ)) (h1 : PE X a ta) (h2 : PE X b tb) : PE X (.BinOp a op b pos) (tOpS C sp E ta tb) := by
  refine ⟨fun pins s σ H Q I h => ?_⟩
  refine wpAny_BinOp (binT h1 h2 I h fun v u s2 x y H2 I2 rx ry q => ?_)
  obtain ⟨p, dx, fs, r, dy, gs, rfl, rfl, hp, hr', q⟩ := q
  cases rx
  cases ry
  obtain ⟨ox, od, J⟩ := inst_of I2 hp
  obtain ⟨oy, ody, J'⟩ := inst_of I2 hr'
  obtain ⟨m, hF⟩ := I2.fr
  refine PySem.W.binop_K hF I2.ok.mod.kin J J'.type c.one c.at_ c.fn ?_
  refine thn (run_fnS (us := [.ref p, .ref r]) (vs := [.ref p, .ref r]) F hr hb (hx σ) I2 (.cons rfl (.cons rfl .nil)) q) ?_
  rintro w s' ⟨z, H', I', rz, qz⟩
  exact SlX.cmpback rz ⟨z, H', I', rz, qz⟩
end
end My

set_option Elab.async false
set_option linter.all false
set_option maxRecDepth 100000
set_option maxHeartbeats 4000000
/-! ### xs[::k], k a whole number that is 1 or -1 -/
namespace L2
open PySem PySem.Spec PyProof.Rows
def tStepL (K : PySem.W.Frag) (te ts : TE) : TE := fun σ H Q => te σ H fun x H1 => ts σ H1 fun y H2 => ∃ i : Int, y = .int i ∧ ∃ a xs, x = .ref a ∧ (i = 1 ∨ i = -1) ∧ SqL K H2 a xs ∧ ∀ p, H2 p = none → Q (.ref p) (upd H2 p (.lst (if i = 1 then xs else xs.reverse)))
section
variable {X : Cx}
theorem pe_stepL {e st : Expr} {te ts : TE} {p3 pos : Pos} (he : PE X e te) (hs : PE X st ts) : PE X (.Subscript e (.Slice none none (some st) p3) pos) (tStepL X.K te ts) := by
  refine ⟨fun pins s σ H Q I h => ?_⟩
  refine Subscript_ (thn (he.run pins s σ H _ I h) fun v s1 ⟨x, H1, I1, r1, q1⟩ => ?_)
  have hst : PO X (some st) (tPart ts) := po_some hs
  refine wpAny_Slice (thn (po_none.run pins s1 σ H1 (fun o H2 => o = none ∧ H2 = H1) I1 ⟨rfl, rfl⟩) fun vl s2 ⟨l, H2, I2, pl, el, e2⟩ => ?_)
  subst el e2
  refine thn (po_none.run pins s2 σ H2 (fun o H3 => o = none ∧ H3 = H2) I2 ⟨rfl, rfl⟩) fun vu s3 ⟨u, H3, I3, pu, eu, e3⟩ => ?_
  subst eu e3
  refine thn (hst.run pins s3 σ H3 (fun o H4 => ∃ i : Int, o = some i ∧ ∃ a xs, x = V.ref a ∧ (i = 1 ∨ i = -1) ∧ SqL X.K H4 a xs ∧ ∀ p, H4 p = none → Q (.ref p) (upd H4 p (.lst (if i = 1 then xs else xs.reverse)))) I3 ?_) fun vs s4 ⟨o, H4, I4, ps, i, eo, a, xs, ex, hi, hx, q⟩ => ?_
  · have key : ∀ y H2, (∃ i : Int, y = V.int i ∧ ∃ a xs, x = V.ref a ∧ (i = 1 ∨ i = -1) ∧ SqL X.K H2 a xs ∧ ∀ p, H2 p = none → Q (.ref p) (upd H2 p (.lst (if i = 1 then xs else xs.reverse)))) = (∃ i, y = V.int i ∧ ∃ j : Int, some i = some j ∧ ∃ a xs, x = V.ref a ∧ (j = 1 ∨ j = -1) ∧ SqL X.K H2 a xs ∧ ∀ p, H2 p = none → Q (.ref p) (upd H2 p (.lst (if j = 1 then xs else xs.reverse)))) := fun y H2 => by
      refine propext ⟨?_, ?_⟩
      · rintro ⟨i, e, r⟩
        exact ⟨i, e, i, rfl, r⟩
      · rintro ⟨i, e, j, ej, r⟩
        cases ej
        exact ⟨i, e, r⟩
    have e2 : (fun y H2 => ∃ i : Int, y = V.int i ∧ ∃ a xs, x = V.ref a ∧ (i = 1 ∨ i = -1) ∧ SqL X.K H2 a xs ∧ ∀ p, H2 p = none → Q (.ref p) (upd H2 p (.lst (if i = 1 then xs else xs.reverse)))) = (fun y H2 => ∃ i, y = V.int i ∧ ∃ j : Int, some i = some j ∧ ∃ a xs, x = V.ref a ∧ (j = 1 ∨ j = -1) ∧ SqL X.K H2 a xs ∧ ∀ p, H2 p = none → Q (.ref p) (upd H2 p (.lst (if j = 1 then xs else xs.reverse)))) := funext fun y => funext fun H2 => key y H2
    rw [e2] at q1
    exact q1
  subst eo ex
  cases r1
  have I5 : Inv X pins σ H4 { s4 with heap := s4.heap.push { cls := .type "slice", data := .fields #[vl, vu, vs] } } := I4.kept (t' := s4.toks) fun b ob q => Heap.get?_push_of_some _ q
  obtain ⟨its, r, ht, hz⟩ := I5.list hx
  have hlen := r.length
  show wpAny (model X.prog X.w) X.A (subscriptTail e (.Slice none none (some st) p3) (.ref a) (.ref s4.heap.objs.size)) (EP X pins σ Q) X.xe { s4 with heap := s4.heap.push { cls := .type "slice", data := .fields #[vl, vu, vs] } }
  refine tail_any (ops := [.ref a, .ref s4.heap.objs.size]) ht.isList.typeIs (PySem.slot_list_getitem.lookup) ?_ (by with_unfolding_all rfl)
  refine wpAny_getItem_list_slice ht.isList (Heap.IsSliceOf.new _ vl vu vs) pl pu ps (by rcases hi with rfl | rfl <;> decide) ?_ (by rw [List.size_toArray]; omega)
  rcases hi with rfl | rfl
  · rw [show slicePick its.toArray none none (some 1) = slicePick its.toArray none none none from rfl, slicePick_all]
    refine ⟨.ref _, _, I5.laid (t' := s4.toks) (o := .lst xs) (fun b ob q => Heap.get?_push_of_some _ q) (Nat.le_refl _) ?_, rfl, ?_⟩
    · exact ⟨hz, _, 0, r, Heap.get?_push_size _ rfl⟩
    · have := q _ (I5.hok.fresh (Nat.le_refl _))
      rw [if_pos rfl] at this
      exact this
  · rw [PySem.W.krv_pick]
    refine ⟨.ref _, _, I5.laid (t' := s4.toks) (o := .lst xs.reverse) (fun b ob q => Heap.get?_push_of_some _ q) (Nat.le_refl _) ?_, rfl, ?_⟩
    · exact ⟨by rw [List.length_reverse]; exact hz, _, 0, r.reverse, Heap.get?_push_size _ rfl⟩
    · have := q _ (I5.hok.fresh (Nat.le_refl _))
      rw [if_neg (by decide)] at this
      exact this
end
end L2

set_option Elab.async false
set_option linter.all false
set_option maxRecDepth 100000
set_option maxHeartbeats 4000000
/-! ### tuples that stand; rows of related things; small loops -/
namespace My
open PySem L2 NdefX
theorem len_app (x y : Str) : (x ++ y).length = x.length + y.length := Array.size_append
theorem take_snoc {α : Type} {l : List α} {i : Nat} {x : α} (h : l[i]? = some x) : l.take (i + 1) = l.take i ++ [x] := by
  rw [List.take_add_one, h]; rfl
/-- tuples stand as they did -/
def Tp (H H' : Hp) : Prop := ∀ a xs, H a = some (.tup xs) → H' a = some (.tup xs)
theorem Tp.refl (H : Hp) : Tp H H := fun _ _ h => h
theorem Tp.trans {H H1 H2 : Hp} (a : Tp H H1) (b : Tp H1 H2) : Tp H H2 := fun c xs h => b c xs (a c xs h)
theorem Kp.tps {H H' : Hp} (k : Kp [] H H') : Tp H H' := fun a xs h => k a _ not0 h
theorem Tp.putN {H H' : Hp} {l : Addr} {o : HO} (t : Tp H H') (h : ∀ xs, H' l ≠ some (.tup xs)) : Tp H (upd H' l o) := fun a xs e => by
  have z : a ≠ l := fun z => h xs (by rw [← z]; exact t a xs e)
  rw [upd_ne z]; exact t a xs e
theorem Tp.putL {H H' : Hp} {l : Addr} {o : HO} {ys : List V} (t : Tp H H') (h : H' l = some (.lst ys)) : Tp H (upd H' l o) := t.putN fun xs z => by rw [h] at z; cases z
theorem Tp.putI {H H' : Hp} {l C dx : Addr} {o : HO} {fs : List (Str × V)} (t : Tp H H') (h : H' l = some (.ins C dx fs)) : Tp H (upd H' l o) := t.putN fun xs z => by rw [h] at z; cases z
theorem Tp.new {H H' : Hp} {l : Addr} {o : HO} (t : Tp H H') (h : H' l = none) : Tp H (upd H' l o) := t.putN fun xs z => by rw [h] at z; cases z
theorem Kp.tpsI {H H' : Hp} {o C dx : Addr} {fs : List (Str × V)} (k : Kp [o] H H') (h : H o = some (.ins C dx fs)) : Tp H H' := fun a xs e => k a _ (not1 fun z => by rw [z, h] at e; cases e) e
theorem Kp.tpsL {H H' : Hp} {o : Addr} {ys : List V} (k : Kp [o] H H') (h : H o = some (.lst ys)) : Tp H H' := fun a xs e => k a _ (not1 fun z => by rw [z, h] at e; cases e) e
/-- one by one related -/
structure Rw {α : Type} (R : V → α → Prop) (us : List V) (gs : List α) : Prop where
  len : us.length = gs.length
  get : ∀ {i : Nat} {u : V}, us[i]? = some u → ∃ g, gs[i]? = some g ∧ R u g
theorem Rw.nil {α : Type} {R : V → α → Prop} : Rw R [] [] := ⟨rfl, fun e => nomatch e⟩
theorem Rw.mono {α : Type} {R R' : V → α → Prop} {us : List V} {gs : List α} (h : Rw R us gs) (f : ∀ u g, R u g → R' u g) : Rw R' us gs := ⟨h.len, fun e => by
  obtain ⟨g, a, b⟩ := h.get e
  exact ⟨g, a, f _ _ b⟩⟩
theorem Rw.at {α : Type} {R : V → α → Prop} {us : List V} {gs : List α} (h : Rw R us gs) {i : Nat} {g : α} (e : gs[i]? = some g) : ∃ u, us[i]? = some u ∧ R u g := by
  have il : i < us.length := by rw [h.len]; exact (List.getElem?_eq_some_iff.mp e).1
  obtain ⟨g', a, b⟩ := h.get (List.getElem?_eq_getElem il)
  rw [e] at a; cases a
  exact ⟨_, List.getElem?_eq_getElem il, b⟩
theorem Rw.cons {α : Type} {R : V → α → Prop} {us : List V} {gs : List α} {u : V} {g : α} (h : R u g) (t : Rw R us gs) : Rw R (u :: us) (g :: gs) := ⟨by simp [t.len], fun {i x} e => by
  cases i with
  | zero => cases e; exact ⟨g, rfl, h⟩
  | succ i => exact t.get (i := i) e⟩
theorem Rw.app {α : Type} {R : V → α → Prop} {us vs : List V} {gs hs : List α} (a : Rw R us gs) (b : Rw R vs hs) : Rw R (us ++ vs) (gs ++ hs) := ⟨by simp [a.len, b.len], fun {i x} e => by
  rcases Nat.lt_or_ge i us.length with z | z
  · rw [List.getElem?_append_left z] at e
    rw [List.getElem?_append_left (by rw [← a.len]; exact z)]
    exact a.get e
  · rw [List.getElem?_append_right z] at e
    rw [List.getElem?_append_right (by rw [← a.len]; exact z), ← a.len]
    exact b.get e⟩
theorem Rw.snoc {α : Type} {R : V → α → Prop} {us : List V} {gs : List α} {u : V} {g : α} (t : Rw R us gs) (h : R u g) : Rw R (us ++ [u]) (gs ++ [g]) := t.app (.cons h .nil)
theorem Rw.take {α : Type} {R : V → α → Prop} {us : List V} {gs : List α} (h : Rw R us gs) (n : Nat) : Rw R (us.take n) (gs.take n) := ⟨by simp [h.len], fun {i x} e => by
  rcases Nat.lt_or_ge i n with z | z
  · rw [List.getElem?_take_of_lt z] at e ⊢
    exact h.get e
  · rw [List.getElem?_take, if_neg (by omega)] at e; cases e⟩
theorem Rw.set {α : Type} {R : V → α → Prop} {us : List V} {gs : List α} {u : V} {g : α} (h : Rw R us gs) (n : Nat) (r : R u g) : Rw R (us.set n u) (gs.set n g) := ⟨by simp [h.len], fun {i x} e => by
  rcases Nat.decEq n i with z | z
  · rw [List.getElem?_set_ne z] at e ⊢
    exact h.get e
  · subst z
    have hl := (List.getElem?_eq_some_iff.mp e).1
    rw [List.length_set] at hl
    rw [List.getElem?_set_self hl] at e
    cases e
    exact ⟨g, by rw [List.getElem?_set_self (by rw [← h.len]; exact hl)], r⟩⟩
theorem Rw.tail {α : Type} {R : V → α → Prop} {u : V} {us : List V} {g : α} {gs : List α} (h : Rw R (u :: us) (g :: gs)) : R u g ∧ Rw R us gs := by
  obtain ⟨g', e, r⟩ := h.get (i := 0) rfl
  cases e
  exact ⟨r, by have := h.len; simpa using this, fun {i x} e => h.get (i := i + 1) e⟩
theorem Rw.isNil {α : Type} {R : V → α → Prop} {us : List V} (h : Rw R us ([] : List α)) : us = [] := List.eq_nil_of_length_eq_zero h.len
theorem Rw.ex {α : Type} {R : V → α → Prop} {us : List V} {g : α} {gs : List α} (h : Rw R us (g :: gs)) : ∃ u r, us = u :: r ∧ R u g ∧ Rw R r gs := by
  cases us with
  | nil => cases h.len
  | cons u r => exact ⟨u, r, rfl, h.tail⟩
theorem Rw.last {α : Type} {R : V → α → Prop} {us : List V} {gi : List α} {g : α} (h : Rw R us (gi ++ [g])) : ∃ ui u, us = ui ++ [u] ∧ Rw R ui gi ∧ R u g := by
  have e : (gi ++ [g])[gi.length]? = some g := by simp
  obtain ⟨u, eu, r⟩ := h.at e
  have hl : us.length = gi.length + 1 := by rw [h.len]; simp
  refine ⟨us.take gi.length, u, ?_, ?_, r⟩
  · rw [← take_snoc eu, List.take_of_length_le (by omega)]
  · have := h.take gi.length
    rw [List.take_left' rfl] at this
    exact this
theorem ixN_last {n : Nat} : ixN (n + 1) (-1) = some n := by
  unfold ixN
  rw [if_neg (by decide), if_pos (by omega)]
  congr 1
  omega
theorem seqIx {n : Nat} {i : Int} (h0 : 0 ≤ i) (h : i < n) : seqIndex? i n = some i.toNat := by
  have e : (if i < 0 then i + (n : Int) else i) = i := if_neg (by omega)
  unfold seqIndex?
  simp only [e, h0, h, decide_true, Bool.and_true, if_true]
theorem perm_erase : ∀ (l : List Int) (k : Nat) (h : k < l.length), (l[k] :: l.eraseIdx k).Perm l
  | [], k, h => absurd h (Nat.not_lt_zero k)
  | a :: r, 0, h => List.Perm.refl _
  | a :: r, k + 1, h => by
    have h' : k < r.length := by simpa using h
    show (r[k] :: a :: r.eraseIdx k).Perm (a :: r)
    exact (List.Perm.swap a r[k] _).trans ((perm_erase r k h').cons a)
/-- v is a tracked tuple of the ints xs -/
def TI (H : Hp) (v : V) (xs : List Int) : Prop := ∃ a, v = .ref a ∧ H a = some (.tup (xs.map V.int))
theorem TI.tp {H H' : Hp} {v : V} {xs : List Int} (h : TI H v xs) (t : Tp H H') : TI H' v xs := by
  obtain ⟨a, e, h⟩ := h
  exact ⟨a, e, t _ _ h⟩
theorem TI.kp {H H' : Hp} {v : V} {xs : List Int} (h : TI H v xs) (t : Kp [] H H') : TI H' v xs := h.tp t.tps
theorem TI.dp {K : PySem.W.Frag} {H : Hp} {v : V} {xs : List Int} (h : TI H v xs) : Dp K H v (.tuple (xs.map PyData.int)) := by
  obtain ⟨a, rfl, h⟩ := h
  refine .tup (sq_t h) ?_
  clear h
  induction xs with
  | nil => exact .nil
  | cons x r ih => exact .cons (.int x) ih
theorem map_get {α : Type} {f : Int → α} {xs : List Int} {i : Nat} {x : α} (h : (xs.map f)[i]? = some x) : ∃ k, xs[i]? = some k ∧ x = f k := by
  rw [List.getElem?_map] at h
  cases e : xs[i]? with
  | none => rw [e] at h; cases h
  | some k => rw [e] at h; cases h; exact ⟨k, rfl, rfl⟩
theorem rwInts (xs : List Int) : Rw (fun v x => v = V.int x) (xs.map V.int) xs := ⟨by simp, fun e => by
  obtain ⟨k, e, h⟩ := map_get e
  exact ⟨k, e, h⟩⟩
theorem rwInts_eq {us : List V} {xs : List Int} (h : Rw (fun v x => v = V.int x) us xs) : us = xs.map V.int := by
  apply List.ext_getElem?
  intro i
  cases e : us[i]? with
  | none =>
    rw [List.getElem?_eq_none_iff] at e
    rw [List.getElem?_eq_none (by rw [List.length_map, ← h.len]; exact e)]
  | some u =>
    obtain ⟨x, ex, rfl⟩ := h.get e
    rw [List.getElem?_map, ex]; rfl
theorem inV_int {z : Int} : ∀ {ks : List Int}, inV (.int z) (ks.map V.int) = decide (z ∈ ks)
  | [] => rfl
  | k :: ks => by
    have e : inV (.int z) ((k :: ks).map V.int) = ((k == z) || inV (.int z) (ks.map V.int)) := rfl
    rw [e, inV_int (ks := ks)]
    by_cases h : k = z
    · rw [h, beq_self_eq_true, Bool.true_or, decide_eq_true List.mem_cons_self]
    · rw [beq_eq_false_iff_ne.mpr h, Bool.false_or]
      refine decide_eq_decide.mpr ⟨fun q => List.mem_cons_of_mem _ q, fun q => ?_⟩
      rcases List.mem_cons.mp q with q | q
      · exact absurd q.symm h
      · exact q
theorem flat_ints (ys : List Int) : (ys.map V.int).all flatV = true := by
  rw [List.all_map]
  exact List.all_eq_true.mpr fun _ _ => rfl
/-- int(x) -/
def rInt1 : List V → Hp → VK → Prop := fun xs H Q => (∃ i, xs = [V.int i] ∧ Q (V.int i) H) ∨ ∃ k, xs = [V.bl k] ∧ Q (V.int (if k = true then 1 else 0)) H
theorem rInt1_int {i : Int} {H : Hp} {Q : VK} : rInt1 [V.int i] H Q = Q (V.int i) H := by
  unfold rInt1
  simp
theorem rInt1_bl {k : Bool} {H : Hp} {Q : VK} : rInt1 [V.bl k] H Q = Q (V.int (if k = true then 1 else 0)) H := by
  unfold rInt1
  simp
theorem forRg {ta : TA} {g : TG} {tb : TS} {D : Ends} {σ : L2.St} {H : Hp} (m : Int) (Pv : Nat → L2.St → Hp → Prop) (ht : ∀ R : List V → Hp → Prop, R [.int m] H → ta σ H R) (h1 : -(2 ^ 62) ≤ m) (h2 : m < 2 ^ 62) (h0 : Pv 0 σ H)
    (step : ∀ j σ H, j < m.toNat → Pv j σ H → g (.int (0 + j)) σ H fun σ2 H2 => tb { D with nx := Pv (j + 1), ct := Pv (j + 1), bk := D.nx } σ2 H2) (fin : ∀ σ H, Pv m.toNat σ H → D.nx σ H) : tFor (iRng1 ta) g tb D σ H :=
  ht _ ⟨m, rfl, h1, h2, for_range Pv h0 step fin⟩
/-- .. by a count -/
theorem forN {ta : TA} {g : TG} {tb : TS} {D : Ends} {σ : L2.St} {H : Hp} (m : Nat) (hm : m ≤ 100000) (Pv : Nat → L2.St → Hp → Prop) (ht : ∀ R : List V → Hp → Prop, R [.int (m : Nat)] H → ta σ H R) (h0 : Pv 0 σ H)
    (step : ∀ j σ H, j < m → Pv j σ H → g (.int (j : Nat)) σ H fun σ2 H2 => tb { D with nx := Pv (j + 1), ct := Pv (j + 1), bk := D.nx } σ2 H2) (fin : ∀ σ H, Pv m σ H → D.nx σ H) : tFor (iRng1 ta) g tb D σ H :=
  forRg (m : Nat) Pv ht (by omega) (by omega) h0 (fun j σ H hj p => by rw [Int.zero_add]; exact step j σ H (by omega) p) fun σ H p => fin σ H (by rw [Int.toNat_natCast] at p; exact p)
theorem lcRgN {ta : TA} {g : TG} {tt : TT} {te : TE} {vs : List Nat} {σ : L2.St} {H : Hp} {Q : VK} (m : Nat) (hm : m ≤ 100000) (Pv : Addr → Nat → Hp → Prop) (ht : ∀ R : List V → Hp → Prop, R [.int (m : Nat)] H → ta σ H R) (h0 : ∀ o, H o = none → Pv o 0 (upd H o (.lst [])))
    (step : ∀ o i H', H o = none → i < m → Pv o i H' → g (.int (i : Nat)) (wipe σ vs) H' fun σ2 H2 => wipe σ2 vs = wipe σ vs ∧ tt σ2 H2 fun b H3 => if b = true then te σ2 H3 fun y H4 => ∃ acc, H4 o = some (.lst acc) ∧ acc.length < sizeLine ∧ Pv o (i + 1) (upd H4 o (.lst (acc ++ [y]))) else Pv o (i + 1) H3)
    (fin : ∀ o H', H o = none → Pv o m H' → Q (.ref o) H') : tLc (iRng1 ta) g tt te vs σ H Q :=
  ht _ ⟨(m : Nat), rfl, by omega, by omega, fun o no => lc_range (Pv o) (h0 o no) (fun i H' hi p => by rw [Int.zero_add]; exact step o i H' no (by omega) p) fun H' p => fin o H' no (by rw [Int.toNat_natCast] at p; exact p)⟩
/-- [f(k) for k in range(m)], each item told by its number -/
theorem lcRgF {α : Type} {ta : TA} {j : Nat} {te : TE} {σ : L2.St} {H : Hp} {Q : VK} (m : Nat) (hm : m ≤ 100000) (R : Hp → V → α → Prop) (f : Nat → α) (mono : ∀ H H' v x, Tp H H' → R H v x → R H' v x) (hj : j < σ.length) (ht : ∀ R : List V → Hp → Prop, R [.int (m : Nat)] H → ta σ H R)
    (body : ∀ (i : Nat) H' (Q' : VK), i < m → Kp [] H H' → (∀ v H2, R H2 v (f i) → Kp [] H' H2 → Q' v H2) → te ((wipe σ [j]).set j (some (.int (i : Nat)))) H' Q')
    (fin : ∀ o us H', H o = none → H' o = some (.lst us) → Rw (R H') us ((List.range m).map f) → Kp [] H H' → Q (.ref o) H') : tLc (iRng1 ta) (gName j) tYes te [j] σ H Q :=
  lcRgN m hm (fun o i H' => ∃ us, H' o = some (.lst us) ∧ Rw (R H') us ((List.range i).map f) ∧ Kp [] H H') ht (fun o no => ⟨[], upd_same, .nil, Kp.new no⟩) (fun o i H' no hi ⟨us, ho, hr, k⟩ => by
    refine ⟨by simp [wipe], ?_⟩
    simp only [tYes, if_true]
    refine body i H' _ hi k fun v H2 hv k2 => ?_
    have ho2 := k2 _ _ not0 ho
    have tp2 : Tp H' (upd H2 o (.lst (us ++ [v]))) := k2.tps.putL ho2
    have tp3 : Tp H2 (upd H2 o (.lst (us ++ [v]))) := (Tp.refl H2).putL ho2
    refine ⟨us, ho2, smallL (by have := hr.len; rw [this, List.length_map, List.length_range]; omega), us ++ [v], upd_same, ?_, (k.trans k2).wr no⟩
    rw [List.range_succ, List.map_append]
    exact (hr.mono fun u g r => mono _ _ _ _ tp2 r).snoc (mono _ _ _ _ tp3 hv)) fun o H' no ⟨us, ho, hr, k⟩ => fin o us H' no ho hr k
/-- [x for x in t if b(x)], t a tuple of ints -/
theorem lcFilt {K : PySem.W.Frag} {tv : TE} {j : Nat} {tt : TT} {te : TE} {σ : L2.St} {H : Hp} {Q : VK} {a : Addr} {xs : List Int} (b : Int → Bool) (hv : ∀ R : VK, R (.ref a) H → tv σ H R) (ha : SqT K H a (xs.map V.int)) (hl : xs.length ≤ 1000) (hj : j < σ.length)
    (test : ∀ x H' (R : Bool → Hp → Prop), x ∈ xs → Kp [] H H' → R (b x) H' → tt ((wipe σ [j]).set j (some (.int x))) H' R)
    (elt : ∀ x H' (R : VK), R (.int x) H' → te ((wipe σ [j]).set j (some (.int x))) H' R)
    (fin : ∀ D H', H D = none → H' D = some (.lst ((xs.filter b).map V.int)) → Kp [] H H' → Q (.ref D) H') :
    tLc (iTup K tv) (gName j) tt te [j] σ H Q := by
  unfold tLc iTup
  refine hv _ ⟨a, rfl, ⟨_, ha⟩, fun D nD => ?_⟩
  refine lc_tup (xs := xs.map V.int) (fun i H' => H' D = some (.lst (((xs.take i).filter b).map V.int)) ∧ Kp [] H H') ⟨upd_same, Kp.new nD⟩ (fun i H' _ h => h.2.tp not0 ha) (fun i x H' hx h => ?_) fun H' h => ?_
  · obtain ⟨k, ek, rfl⟩ := map_get hx
    obtain ⟨hD, kp⟩ := h
    refine ⟨by simp [wipe], ?_⟩
    refine test k H' _ (List.mem_of_getElem? ek) kp ?_
    cases hb : b k with
    | true =>
      rw [if_pos rfl]
      refine elt k H' _ ⟨_, hD, ?_, ?_, kp.wr nD⟩
      · rw [List.length_map]
        have := List.length_filter_le b (xs.take i)
        rw [List.length_take] at this
        exact smallL (by omega)
      · rw [upd_same, take_snoc ek, List.filter_append]
        simp [hb]
    | false =>
      rw [if_neg (by simp)]
      refine ⟨?_, kp⟩
      rw [take_snoc ek, List.filter_append]
      simpa [hb] using hD
  · obtain ⟨hD, kp⟩ := h
    rw [List.length_map, List.take_length] at hD
    exact fin D H' nD hD kp
/-- [f(x) for x in t], t a tuple -/
theorem lcMapT {α β : Type} {K : PySem.W.Frag} {tv : TE} {j : Nat} {te : TE} {σ : L2.St} {H : Hp} {Q : VK} {a : Addr} {us : List V} {gs : List α} {R : Hp → V → α → Prop} (mono : ∀ H H' v x, Tp H H' → R H v x → R H' v x) (f : α → β) (put : β → V) (hv : ∀ R : VK, R (.ref a) H → tv σ H R) (ha : SqT K H a us) (hr : Rw (R H) us gs) (hl : gs.length ≤ 1000) (hj : j < σ.length)
    (elt : ∀ v x H' (Q' : VK), x ∈ gs → R H' v x → Kp [] H H' → (∀ H2, Kp [] H' H2 → Q' (put (f x)) H2) → te ((wipe σ [j]).set j (some v)) H' Q')
    (fin : ∀ D H', H D = none → H' D = some (.lst (gs.map fun x => put (f x))) → Kp [] H H' → Q (.ref D) H') :
    tLc (iTup K tv) (gName j) tYes te [j] σ H Q := by
  unfold tLc iTup
  refine hv _ ⟨a, rfl, ⟨_, ha⟩, fun D nD => ?_⟩
  refine lc_tup (xs := us) (fun i H' => H' D = some (.lst ((gs.take i).map fun x => put (f x))) ∧ Kp [] H H') ⟨upd_same, Kp.new nD⟩ (fun i H' _ h => h.2.tp not0 ha) (fun i x H' hx h => ?_) fun H' h => ?_
  · obtain ⟨g, eg, hg⟩ := hr.get hx
    obtain ⟨hD, kp⟩ := h
    refine ⟨by simp [wipe], ?_⟩
    simp only [tYes, if_true]
    refine elt x g H' _ (List.mem_of_getElem? eg) (mono _ _ _ _ kp.tps hg) kp fun H2 k2 => ?_
    refine ⟨_, k2 _ _ not0 hD, ?_, ?_, (kp.trans k2).wr nD⟩
    · rw [List.length_map, List.length_take]; exact smallL (by omega)
    · rw [upd_same, take_snoc eg, List.map_append]; rfl
  · obtain ⟨hD, kp⟩ := h
    rw [hr.len, List.take_length] at hD
    exact fin D H' nD hD kp
/-- [f(x) for x in l], l a list -/
theorem lcMapL {α β : Type} {K : PySem.W.Frag} {tv : TE} {j : Nat} {te : TE} {σ : L2.St} {H : Hp} {Q : VK} {a : Addr} {us : List V} {gs : List α} {R : Hp → V → α → Prop} (mono : ∀ H H' v x, Tp H H' → R H v x → R H' v x) (f : α → β) (put : β → V) (hv : ∀ R : VK, R (.ref a) H → tv σ H R) (ha : SqL K H a us) (hr : Rw (R H) us gs) (hl : gs.length ≤ 1000) (hj : j < σ.length)
    (elt : ∀ v x H' (Q' : VK), x ∈ gs → R H' v x → Kp [] H H' → (∀ H2, Kp [] H' H2 → Q' (put (f x)) H2) → te ((wipe σ [j]).set j (some v)) H' Q')
    (fin : ∀ D H', H D = none → H' D = some (.lst (gs.map fun x => put (f x))) → Kp [] H H' → Q (.ref D) H') :
    tLc (iList K tv) (gName j) tYes te [j] σ H Q := by
  unfold tLc iList
  refine hv _ ⟨a, rfl, ⟨_, ha⟩, fun D nD => ?_⟩
  refine lc_list (xs := us) (fun i H' => H' D = some (.lst ((gs.take i).map fun x => put (f x))) ∧ Kp [] H H') ⟨upd_same, Kp.new nD⟩ (fun i H' _ h => h.2.ls not0 ha) (fun i x H' hx h => ?_) fun H' h => ?_
  · obtain ⟨g, eg, hg⟩ := hr.get hx
    obtain ⟨hD, kp⟩ := h
    refine ⟨by simp [wipe], ?_⟩
    simp only [tYes, if_true]
    refine elt x g H' _ (List.mem_of_getElem? eg) (mono _ _ _ _ kp.tps hg) kp fun H2 k2 => ?_
    refine ⟨_, k2 _ _ not0 hD, ?_, ?_, (kp.trans k2).wr nD⟩
    · rw [List.length_map, List.length_take]; exact smallL (by omega)
    · rw [upd_same, take_snoc eg, List.map_append]; rfl
  · obtain ⟨hD, kp⟩ := h
    rw [hr.len, List.take_length] at hD
    exact fin D H' nD hD kp
/-- [f(x) for x in t], t a list; the results related -/
theorem lcRelL {α β : Type} {K : PySem.W.Frag} {tv : TE} {j : Nat} {te : TE} {σ : L2.St} {H : Hp} {Q : VK} {a : Addr} {us : List V} {gs : List α} {R : Hp → V → α → Prop} {R2 : Hp → V → β → Prop} (mono : ∀ H H' v x, Tp H H' → R H v x → R H' v x) (mono2 : ∀ H H' v x, Tp H H' → R2 H v x → R2 H' v x) (f : α → β) (hv : ∀ R : VK, R (.ref a) H → tv σ H R) (ha : SqL K H a us) (hr : Rw (R H) us gs) (hl : gs.length ≤ 1000) (hj : j < σ.length)
    (elt : ∀ v x H' (Q' : VK), x ∈ gs → R H' v x → Kp [] H H' → (∀ v' H2, R2 H2 v' (f x) → Kp [] H' H2 → Q' v' H2) → te ((wipe σ [j]).set j (some v)) H' Q')
    (fin : ∀ D ws H', H D = none → H' D = some (.lst ws) → Rw (R2 H') ws (gs.map f) → Kp [] H H' → Q (.ref D) H') :
    tLc (iList K tv) (gName j) tYes te [j] σ H Q := by
  unfold tLc iList
  refine hv _ ⟨a, rfl, ⟨_, ha⟩, fun D nD => ?_⟩
  refine lc_list (xs := us) (fun i H' => ∃ ws, H' D = some (.lst ws) ∧ Rw (R2 H') ws ((gs.take i).map f) ∧ Kp [] H H') ⟨[], upd_same, .nil, Kp.new nD⟩ (fun i H' _ h => by obtain ⟨_, _, _, k⟩ := h; exact k.ls not0 ha) (fun i x H' hx h => ?_) fun H' h => ?_
  · obtain ⟨g, eg, hg⟩ := hr.get hx
    obtain ⟨ws, hD, hw, kp⟩ := h
    refine ⟨by simp [wipe], ?_⟩
    simp only [tYes, if_true]
    refine elt x g H' _ (List.mem_of_getElem? eg) (mono _ _ _ _ kp.tps hg) kp fun v' H2 h2 k2 => ?_
    have hD2 := k2 _ _ not0 hD
    refine ⟨_, hD2, ?_, ws ++ [v'], upd_same, ?_, (kp.trans k2).wr nD⟩
    · rw [hw.len, List.length_map, List.length_take]; exact smallL (by omega)
    · rw [take_snoc eg, List.map_append]
      exact (hw.mono fun u g r => mono2 _ _ _ _ (k2.tps.putL hD2) r).snoc (mono2 _ _ _ _ ((Tp.refl H2).putL hD2) h2)
  · obtain ⟨ws, hD, hw, kp⟩ := h
    rw [hr.len, List.take_length] at hw
    exact fin D ws H' nD hD hw kp
theorem lc_src {K : PySem.W.Frag} {tv : TE} {g : TG} {tt : TT} {te : TE} {vs : List Nat} {σ : L2.St} {H : Hp} {Q : VK} (h : tv σ H fun v H1 => tLc (iList K (tC v)) g tt te vs σ H1 Q) : tLc (iList K tv) g tt te vs σ H Q := h
theorem lc_srcT {K : PySem.W.Frag} {tv : TE} {g : TG} {tt : TT} {te : TE} {vs : List Nat} {σ : L2.St} {H : Hp} {Q : VK} (h : tv σ H fun v H1 => tLc (iTup K (tC v)) g tt te vs σ H1 Q) : tLc (iTup K tv) g tt te vs σ H Q := h
def rTupOf (K : PySem.W.Frag) : List V → Hp → VK → Prop := fun xs H Q => ∃ p ys, xs = [V.ref p] ∧ ((SqL K H p ys ∧ ∀ l, H l = none → Q (.ref l) (upd H l (.tup ys))) ∨ (SqT K H p ys ∧ Q (.ref p) H))
theorem TI.make {H : Hp} {s : Addr} {xs : List Int} : TI (upd H s (.tup (xs.map V.int))) (.ref s) xs := ⟨s, rfl, upd_same⟩
/-- [k for k in range(m) if b(k)] -/
theorem lcRgFilt {ta : TA} {j : Nat} {tt : TT} {te : TE} {σ : L2.St} {H : Hp} {Q : VK} (m : Nat) (hm : m ≤ 1000) (b : Int → Bool) (hj : j < σ.length) (ht : ∀ R : List V → Hp → Prop, R [.int (m : Nat)] H → ta σ H R)
    (test : ∀ (i : Nat) H' (R : Bool → Hp → Prop), i < m → Kp [] H H' → (∀ H2, Kp [] H' H2 → R (b i) H2) → tt ((wipe σ [j]).set j (some (.int (i : Nat)))) H' R)
    (elt : ∀ (i : Nat) H' (R : VK), R (.int (i : Nat)) H' → te ((wipe σ [j]).set j (some (.int (i : Nat)))) H' R)
    (fin : ∀ D H', H D = none → H' D = some (.lst ((((List.range m).map fun i => ((i : Nat) : Int)).filter b).map V.int)) → Kp [] H H' → Q (.ref D) H') :
    tLc (iRng1 ta) (gName j) tt te [j] σ H Q :=
  lcRgN m (by omega) (fun o i H' => H' o = some (.lst ((((List.range i).map fun i => ((i : Nat) : Int)).filter b).map V.int)) ∧ Kp [] H H') ht (fun o no => ⟨upd_same, Kp.new no⟩) (fun o i H' no hi ⟨hD, kp⟩ => by
    refine ⟨by simp [wipe], ?_⟩
    refine test i H' _ hi kp fun H2 k2 => ?_
    have hD2 := k2 _ _ not0 hD
    cases hb : b i with
    | true =>
      rw [if_pos rfl]
      refine elt i H2 _ ⟨_, hD2, ?_, ?_, (kp.trans k2).wr no⟩
      · rw [List.length_map]
        have := List.length_filter_le b ((List.range i).map fun i => ((i : Nat) : Int))
        rw [List.length_map, List.length_range] at this
        exact smallL (by omega)
      · rw [upd_same, List.range_succ, List.map_append, List.filter_append]
        simp [hb]
    | false =>
      rw [if_neg (by simp)]
      refine ⟨?_, kp.trans k2⟩
      rw [List.range_succ, List.map_append, List.filter_append]
      simpa [hb] using hD2) fun o H' no ⟨hD, kp⟩ => fin o H' no hD kp
theorem forT_src {K : PySem.W.Frag} {te : TE} {g : TG} {tb : TS} {D : Ends} {σ : L2.St} {H : Hp} (h : te σ H fun v H1 => tFor (iTup K (tC v)) g tb D σ H1) : tFor (iTup K te) g tb D σ H := h
theorem forTC {K : PySem.W.Frag} {g : TG} {tb : TS} {D : Ends} {σ : L2.St} {H : Hp} {a : Addr} {xs : List V} (Pv : Nat → L2.St → Hp → Prop) (hS : SqT K H a xs) (h0 : Pv 0 σ H) (hl : ∀ j σ H, j ≤ xs.length → Pv j σ H → SqT K H a xs)
    (hs : ∀ j x σ H, xs[j]? = some x → Pv j σ H → g x σ H fun σ2 H2 => tb { D with nx := Pv (j + 1), ct := Pv (j + 1), bk := D.nx } σ2 H2) (hd : ∀ σ H, Pv xs.length σ H → D.nx σ H) : tFor (iTup K (tC (.ref a))) g tb D σ H :=
  ⟨a, rfl, ⟨xs, hS⟩, for_tup Pv h0 hl hs hd⟩
theorem forN2 {ta : TA} {g : TG} {tb : TS} {D : Ends} {σ : L2.St} {H : Hp} (lo m : Nat) (hlo : lo ≤ 1000) (hm : m ≤ 100000) (Pv : Nat → L2.St → Hp → Prop) (ht : ∀ R : List V → Hp → Prop, (∀ H1, Kp [] H H1 → R [.int (lo : Nat), .int (m : Nat)] H1) → ta σ H R) (h0 : ∀ H1, Kp [] H H1 → Pv 0 σ H1)
    (step : ∀ j σ H, lo + j < m → Pv j σ H → g (.int ((lo + j : Nat) : Int)) σ H fun σ2 H2 => tb { D with nx := Pv (j + 1), ct := Pv (j + 1), bk := D.nx } σ2 H2) (fin : ∀ σ H, Pv (m - lo) σ H → D.nx σ H) : tFor (iRng2 ta) g tb D σ H :=
  ht _ fun H1 k1 => ⟨(lo : Nat), (m : Nat), rfl, ⟨by omega, by omega, by omega, by omega⟩, for_range (lo := (lo : Nat)) (n := ((m : Int) - (lo : Nat)).toNat) Pv (h0 H1 k1) (fun j σ H hj p => by
    have e : ((lo : Nat) : Int) + (j : Nat) = ((lo + j : Nat) : Int) := by omega
    rw [e]
    exact step j σ H (by omega) p) fun σ H p => fin σ H (by
      have e : ((m : Int) - (lo : Nat)).toNat = m - lo := by omega
      rw [e] at p; exact p)⟩
/-- [e for k in range(m)], of each item a fact -/
theorem lcRgE {α : Type} {ta : TA} {j : Nat} {te : TE} {σ : L2.St} {H : Hp} {Q : VK} (m : Nat) (hm : m ≤ 100000) (R : Hp → V → α → Prop) (G : α → Prop) (mono : ∀ H H' v x, Tp H H' → R H v x → R H' v x) (hj : j < σ.length) (ht : ∀ R : List V → Hp → Prop, R [.int (m : Nat)] H → ta σ H R)
    (body : ∀ (i : Nat) H' (Q' : VK), i < m → Kp [] H H' → (∀ v g H2, R H2 v g → G g → Kp [] H' H2 → Q' v H2) → te ((wipe σ [j]).set j (some (.int (i : Nat)))) H' Q')
    (fin : ∀ o us gs H', H o = none → H' o = some (.lst us) → Rw (R H') us gs → gs.length = m → (∀ g ∈ gs, G g) → Kp [] H H' → Q (.ref o) H') : tLc (iRng1 ta) (gName j) tYes te [j] σ H Q :=
  lcRgN m hm (fun o i H' => ∃ us gs, H' o = some (.lst us) ∧ Rw (R H') us gs ∧ gs.length = i ∧ (∀ g ∈ gs, G g) ∧ Kp [] H H') ht (fun o no => ⟨[], [], upd_same, .nil, rfl, (fun g h => nomatch h), Kp.new no⟩) (fun o i H' no hi ⟨us, gs, ho, hr, gl, hg, k⟩ => by
    refine ⟨by simp [wipe], ?_⟩
    simp only [tYes, if_true]
    refine body i H' _ hi k fun v g H2 hv gg k2 => ?_
    have ho2 := k2 _ _ not0 ho
    refine ⟨us, ho2, smallL (by have := hr.len; omega), us ++ [v], gs ++ [g], upd_same, (hr.mono fun u g r => mono _ _ _ _ (k2.tps.putL ho2) r).snoc (mono _ _ _ _ ((Tp.refl H2).putL ho2) hv), by simp [gl], fun x hx => ?_, (k.trans k2).wr no⟩
    rcases List.mem_append.mp hx with hx | hx
    · exact hg x hx
    · rw [List.mem_singleton.mp hx]; exact gg) fun o H' no ⟨us, gs, ho, hr, gl, hg, k⟩ => fin o us gs H' no ho hr gl hg k
/-- a walk of a tuple that stands -/
theorem it_tup {K : PySem.W.Frag} {a : Addr} {xs : List V} {W0 : Hp → Prop} (Pv : Nat → Hp → Prop) {H : Hp} (h0 : Pv 0 H) {Nx : Hp → Prop} {Body : V → Hp → (Hp → Prop) → Prop} (hl : ∀ i H', Pv i H' → SqT K H' a xs)
    (step : ∀ i x H', xs[i]? = some x → Pv i H' → Body x H' (Pv (i + 1))) (fin : ∀ H', Pv xs.length H' → Nx H') : ∃ W : Nat → Nat → Hp → Prop, (∃ k, W 0 k H) ∧ ∀ i k H, W i k H →
  ((Itt K a).stop i H ∧ Nx H) ∨ ((Itt K a).go i H ∧ ∃ N2 : Hp → Prop, (∀ H', N2 H' → ∃ m', m' < k ∧ W (i + 1) m' H') ∧ ∀ x H', (Itt K a).yld i H x H' → Body x H' N2) := by
  refine ⟨fun i k H => k = xs.length - i ∧ i ≤ xs.length ∧ Pv i H, ⟨xs.length, rfl, Nat.zero_le _, h0⟩, ?_⟩
  rintro i k H ⟨rfl, hi, p⟩
  have q := hl i H p
  by_cases lt : i < xs.length
  · refine .inr ⟨⟨xs, xs[i], q, by simp [lt]⟩, Pv (i + 1), fun H' p' => ⟨xs.length - (i + 1), by omega, rfl, lt, p'⟩, fun x H' y => ?_⟩
    obtain ⟨e, y⟩ := y
    subst e
    exact step i x _ (y xs q) p
  · have e : i = xs.length := by omega
    subst e
    exact .inl ⟨⟨xs, q, Nat.le_refl _⟩, fin H p⟩
theorem flat_take {gs : List (List Int)} {i : Nat} {g : List Int} (e : gs[i]? = some g) : (gs.take (i + 1)).flatten = (gs.take i).flatten ++ g := by
  rw [take_snoc e, List.flatten_append, List.flatten_singleton]
theorem flat_le (gs : List (List Int)) (i : Nat) : (gs.take i).flatten.length ≤ gs.flatten.length := by
  have e : (gs.take i ++ gs.drop i).flatten.length = gs.flatten.length := by rw [List.take_append_drop]
  rw [List.flatten_append, List.length_append] at e
  omega
/-- [x for g in t for x in g], t a tuple of tuples of ints -/
theorem lcFlat {K : PySem.W.Frag} {tv : TE} {p q : Nat} {σ : L2.St} {H : Hp} {Q : VK} {a : Addr} {us : List V} {gs : List (List Int)} (hv : ∀ R : VK, R (.ref a) H → tv σ H R) (ha : SqT K H a us) (hr : Rw (TI H) us gs) (hl : gs.flatten.length ≤ 1000) (hp : p < σ.length) (hq : q < σ.length) (pq : p ≠ q)
    (fin : ∀ D H', H D = none → H' D = some (.lst (gs.flatten.map V.int)) → Kp [] H H' → Q (.ref D) H') :
    tLc2 (iTup K tv) (gName p) tYes (iTup K (tVar p)) (gName q) tYes (tVar q) [p, q] [q] σ H Q := by
  unfold tLc2 iTup
  refine hv _ ⟨a, rfl, ⟨_, ha⟩, fun D nD => ?_⟩
  have w1 : ∀ x, wipe ((wipe σ [p, q]).set p (some x)) [p, q] = wipe σ [p, q] := fun x => by
    apply List.ext_getElem?
    intro n
    simp only [wipe, List.getElem?_set, List.length_set]
    by_cases h1 : p = n <;> by_cases h2 : q = n <;> simp [h1, h2]
  refine it_tup (K := K) (a := a) (xs := us) (W0 := fun _ => True) (Body := fun x H' N => gName p x (wipe σ [p, q]) H' fun σ2 H2 => wipe σ2 [p, q] = wipe σ [p, q] ∧ tYes σ2 H2 fun b H3 => if b = true then tLcIn (iTup K (tVar p)) (gName q) tYes (tVar q) [q] D σ2 H3 N else N H3)
    (fun i H' => H' D = some (.lst ((gs.take i).flatten.map V.int)) ∧ Kp [] H H') ⟨upd_same, Kp.new nD⟩ (fun i H' h => h.2.tp not0 ha) (fun i x H' hx h => ?_) fun H' h => ?_
  · obtain ⟨g, eg, b, rfl, hb⟩ := hr.get hx
    obtain ⟨hD, kp⟩ := h
    refine ⟨w1 _, ?_⟩
    simp only [tYes, if_true]
    have hb' := kp _ _ not0 hb
    refine ⟨.ref b, ?_, b, rfl, ⟨_, sq_t hb'⟩, ?_⟩
    · show ((wipe σ [p, q]).set p (some (.ref b)))[p]? = _
      rw [List.getElem?_set_self (by rw [wipe_length]; exact hp)]
    have fl := flat_le gs (i + 1)
    rw [flat_take eg, List.length_append] at fl
    refine it_tup (K := K) (a := b) (xs := g.map V.int) (W0 := fun _ => True) (Body := fun x H' N => gName q x (wipe ((wipe σ [p, q]).set p (some (.ref b))) [q]) H' fun σ2 H2 => wipe σ2 [q] = wipe ((wipe σ [p, q]).set p (some (.ref b))) [q] ∧ tYes σ2 H2 fun b H3 => if b = true then tVar q σ2 H3 fun y H4 => ∃ acc, H4 D = some (.lst acc) ∧ acc.length < sizeLine ∧ N (upd H4 D (.lst (acc ++ [y]))) else N H3)
      (fun j H2 => H2 D = some (.lst (((gs.take i).flatten ++ g.take j).map V.int)) ∧ Kp [] H H2) ⟨by rw [List.take_zero, List.append_nil]; exact hD, kp⟩ (fun j H2 h => sq_t (h.2 _ _ not0 (by exact hb))) (fun j x H2 hx2 h => ?_) fun H2 h => ?_
    · obtain ⟨k, ek, rfl⟩ := map_get hx2
      obtain ⟨hD2, kp2⟩ := h
      refine ⟨by simp [wipe], ?_⟩
      simp only [if_true]
      refine ⟨.int k, ?_, _, hD2, ?_, ?_, kp2.wr nD⟩
      · rw [List.getElem?_set_self (by rw [wipe_length, List.length_set, wipe_length]; exact hq)]
      · rw [List.length_map, List.length_append, List.length_take]; exact smallL (by omega)
      · rw [upd_same, take_snoc ek]; simp
    · obtain ⟨hD2, kp2⟩ := h
      rw [List.length_map, List.take_length] at hD2
      exact ⟨by rw [flat_take eg]; exact hD2, kp2⟩
  · obtain ⟨hD, kp⟩ := h
    rw [hr.len, List.take_length] at hD
    exact fin D H' nD hD kp
/-- what stands of an own error with one field, and its __init__ -/
structure Er1 (P : Program) (w : World) (K : PySem.W.Frag) (mg : Str → Option Value) (base : Heap) (nm fld : Str) (C f : Addr) (fd : FuncData) (ps : List Str) (Pf : V → Prop) : Prop where
  k : mg nm = some (.ref C)
  ox : OexC K C
  ic : PySem.W.findIn K (.ref C) "__init__" = some (some (.ref f))
  ti : PySem.W.typeIn K (.ref f) = some (.type "function")
  b : Binds K fd ps []
  G : FnOk P w K mg base (L2.CX P w) 1 f fd ps (spErr1 C fld Pf)
theorem find_first {α : Type} {f : α → Bool} {l : List α} {i : Nat} {x : α} (e : l[i]? = some x) (hx : f x = true) (h : ∀ j y, j < i → l[j]? = some y → f y = false) : l.find? f = some x := by
  induction l generalizing i with
  | nil => cases e
  | cons a r ih =>
    cases i with
    | zero => cases e; rw [List.find?_cons, hx]
    | succ i =>
      rw [List.find?_cons, h 0 a (by omega) rfl]
      exact ih e fun j y hj ey => h (j + 1) y (by omega) ey
end My

set_option Elab.async false
set_option linter.all false
set_option maxRecDepth 100000
set_option maxHeartbeats 4000000
/-! ### list comprehensions over lists and tuples of related items, with a test -/
namespace My
open PySem L2
def WSrc (K : PySem.W.Frag) (wi : L2.TI) (σ : L2.St) (H : Hp) (a : Addr) (us : List V) : Prop := (SqL K H a us ∧ ∀ R, R (Itl K a) H → wi σ H R) ∨ (SqT K H a us ∧ ∀ R, R (Itt K a) H → wi σ H R)
section
variable {K : PySem.W.Frag} {tv : TE} {σ : L2.St} {H : Hp} {a : Addr} {us : List V}
theorem src_tup (hv : ∀ R : VK, R (.ref a) H → tv σ H R) (ha : SqT K H a us) : WSrc K (iTup K tv) σ H a us := .inr ⟨ha, fun R h => hv _ ⟨a, rfl, ⟨_, ha⟩, h⟩⟩
theorem src_list (hv : ∀ R : VK, R (.ref a) H → tv σ H R) (ha : SqL K H a us) : WSrc K (iList K tv) σ H a us := .inl ⟨ha, fun R h => hv _ ⟨a, rfl, ⟨_, ha⟩, h⟩⟩
theorem src_seq (hv : ∀ R : VK, R (.ref a) H → tv σ H R) (ha : SqAny K H a us) : WSrc K (iSeq K tv) σ H a us := by
  rcases ha with h | h
  · exact .inl ⟨h, fun R q => hv _ ⟨a, rfl, .inl ⟨⟨_, h⟩, q⟩⟩⟩
  · exact .inr ⟨h, fun R q => hv _ ⟨a, rfl, .inr ⟨⟨_, h⟩, q⟩⟩⟩
end
/-- [f(x) for x in s if b(x)], its items related; the target and the test as they are -/
theorem lcG {α β : Type} {K : PySem.W.Frag} {wi : L2.TI} {g : TG} {tt : TT} {te : TE} {vs : List Nat} {σ : L2.St} {H : Hp} {Q : VK} {a : Addr} {us : List V} {gs : List α} {R : Hp → V → α → Prop} {R2 : Hp → V → β → Prop} (mono : ∀ H H' v x, Tp H H' → R H v x → R H' v x) (mono2 : ∀ H H' v x, Tp H H' → R2 H v x → R2 H' v x) (b : α → Bool) (f : α → β)
    (hw : WSrc K wi σ H a us) (hr : Rw (R H) us gs) (hl : gs.length ≤ 1000)
    (turn : ∀ v x H' (N : V → Hp → Prop) (N0 : Hp → Prop), x ∈ gs → R H' v x → Kp [] H H' → (b x = true → ∀ u H2, R2 H2 u (f x) → Kp [] H' H2 → N u H2) → (b x = false → ∀ H2, Kp [] H' H2 → N0 H2) →
      g v (wipe σ vs) H' fun σ2 H2 => wipe σ2 vs = wipe σ vs ∧ tt σ2 H2 fun c H3 => if c = true then te σ2 H3 N else N0 H3)
    (fin : ∀ D us' H', H D = none → H' D = some (.lst us') → Rw (R2 H') us' ((gs.filter b).map f) → Kp [] H H' → Q (.ref D) H') : tLc wi g tt te vs σ H Q := by
  have st : ∀ D, H D = none → ∀ i v H', us[i]? = some v → (∃ us', H' D = some (.lst us') ∧ Rw (R2 H') us' (((gs.take i).filter b).map f) ∧ Kp [] H H') →
      g v (wipe σ vs) H' fun σ2 H2 => wipe σ2 vs = wipe σ vs ∧ tt σ2 H2 fun c H3 => if c = true then te σ2 H3 fun y H4 => ∃ acc, H4 D = some (.lst acc) ∧ acc.length < sizeLine ∧ (fun i H' => ∃ us', H' D = some (.lst us') ∧ Rw (R2 H') us' (((gs.take i).filter b).map f) ∧ Kp [] H H') (i + 1) (upd H4 D (.lst (acc ++ [y])))
        else (fun i H' => ∃ us', H' D = some (.lst us') ∧ Rw (R2 H') us' (((gs.take i).filter b).map f) ∧ Kp [] H H') (i + 1) H3 := by
    rintro D nD i v H' hx ⟨us', hD, hr', kp⟩
    obtain ⟨x, ex, hg⟩ := hr.get hx
    refine turn v x H' _ _ (List.mem_of_getElem? ex) (mono _ _ _ _ kp.tps hg) kp (fun hb u H2 hu k2 => ?_) fun hb H2 k2 => ?_
    · have hD2 := k2 _ _ not0 hD
      refine ⟨us', hD2, ?_, us' ++ [u], upd_same, ?_, (kp.trans k2).wr nD⟩
      · rw [hr'.len, List.length_map]
        have := List.length_filter_le b (gs.take i)
        rw [List.length_take] at this
        exact smallL (by omega)
      · have tp : Tp H2 (upd H2 D (.lst (us' ++ [u]))) := (Tp.refl _).putL hD2
        rw [take_snoc ex, List.filter_append, List.map_append]
        simp only [List.filter_cons, hb, List.filter_nil, if_true, List.map_cons, List.map_nil]
        exact (hr'.mono fun _ _ r => mono2 _ _ _ _ (k2.tps.trans tp) r).snoc (mono2 _ _ _ _ tp hu)
    · refine ⟨us', k2 _ _ not0 hD, ?_, kp.trans k2⟩
      rw [take_snoc ex, List.filter_append]
      simp only [List.filter_cons, hb, List.filter_nil, if_false, Bool.false_eq_true, List.append_nil]
      exact hr'.mono fun _ _ r => mono2 _ _ _ _ k2.tps r
  have hlen := hr.len
  rcases hw with ⟨ha, hw⟩ | ⟨ha, hw⟩
  · refine hw _ fun D nD => ?_
    refine lc_list (xs := us) (fun i H' => ∃ us', H' D = some (.lst us') ∧ Rw (R2 H') us' (((gs.take i).filter b).map f) ∧ Kp [] H H') ⟨[], upd_same, .nil, Kp.new nD⟩ (fun i H' _ h => by obtain ⟨_, _, _, k⟩ := h; exact k.ls not0 ha) (fun i x H' hx h => st D nD i x H' hx h) fun H' h => ?_
    obtain ⟨us', hD, hr', kp⟩ := h
    rw [hlen, List.take_length] at hr'
    exact fin D us' H' nD hD hr' kp
  · refine hw _ fun D nD => ?_
    refine lc_tup (xs := us) (fun i H' => ∃ us', H' D = some (.lst us') ∧ Rw (R2 H') us' (((gs.take i).filter b).map f) ∧ Kp [] H H') ⟨[], upd_same, .nil, Kp.new nD⟩ (fun i H' _ h => by obtain ⟨_, _, _, k⟩ := h; exact k.tp not0 ha) (fun i x H' hx h => st D nD i x H' hx h) fun H' h => ?_
    obtain ⟨us', hD, hr', kp⟩ := h
    rw [hlen, List.take_length] at hr'
    exact fin D us' H' nD hD hr' kp
theorem it_listB {K : PySem.W.Frag} {a : Addr} {xs : List V} (Pv : Nat → Hp → Prop) {H : Hp} (h0 : Pv 0 H) {Nx : Hp → Prop} {Body : V → Hp → (Hp → Prop) → Prop} (hl : ∀ i H', Pv i H' → SqL K H' a xs)
    (step : ∀ i x H', xs[i]? = some x → Pv i H' → Body x H' (Pv (i + 1))) (fin : ∀ H', Pv xs.length H' → Nx H') : ∃ W : Nat → Nat → Hp → Prop, (∃ k, W 0 k H) ∧ ∀ i k H, W i k H →
      ((Itl K a).stop i H ∧ Nx H) ∨ ((Itl K a).go i H ∧ ∃ N2 : Hp → Prop, (∀ H', N2 H' → ∃ m', m' < k ∧ W (i + 1) m' H') ∧ ∀ x H', (Itl K a).yld i H x H' → Body x H' N2) := by
  refine ⟨fun i m H => m = xs.length - i ∧ i ≤ xs.length ∧ Pv i H, ⟨xs.length, by simp, Nat.zero_le _, h0⟩, ?_⟩
  rintro i m H ⟨rfl, hi, p⟩
  have q := hl i H p
  by_cases hlt : i < xs.length
  · refine .inr ⟨⟨xs, xs[i], q, by simp [hlt]⟩, Pv (i + 1), fun H' p' => ⟨xs.length - (i + 1), by omega, rfl, hlt, p'⟩, fun x H' y => ?_⟩
    obtain ⟨e, y⟩ := y
    subst e
    exact step i x _ (y xs q) p
  · have e : i = xs.length := by omega
    subst e
    exact .inl ⟨⟨xs, q, Nat.le_refl _⟩, fin H p⟩
theorem it_tupB {K : PySem.W.Frag} {a : Addr} {xs : List V} (Pv : Nat → Hp → Prop) {H : Hp} (h0 : Pv 0 H) {Nx : Hp → Prop} {Body : V → Hp → (Hp → Prop) → Prop} (hl : ∀ i H', Pv i H' → SqT K H' a xs)
    (step : ∀ i x H', xs[i]? = some x → Pv i H' → Body x H' (Pv (i + 1))) (fin : ∀ H', Pv xs.length H' → Nx H') : ∃ W : Nat → Nat → Hp → Prop, (∃ k, W 0 k H) ∧ ∀ i k H, W i k H →
      ((Itt K a).stop i H ∧ Nx H) ∨ ((Itt K a).go i H ∧ ∃ N2 : Hp → Prop, (∀ H', N2 H' → ∃ m', m' < k ∧ W (i + 1) m' H') ∧ ∀ x H', (Itt K a).yld i H x H' → Body x H' N2) := by
  refine ⟨fun i m H => m = xs.length - i ∧ i ≤ xs.length ∧ Pv i H, ⟨xs.length, by simp, Nat.zero_le _, h0⟩, ?_⟩
  rintro i m H ⟨rfl, hi, p⟩
  have q := hl i H p
  by_cases hlt : i < xs.length
  · refine .inr ⟨⟨xs, xs[i], q, by simp [hlt]⟩, Pv (i + 1), fun H' p' => ⟨xs.length - (i + 1), by omega, rfl, hlt, p'⟩, fun x H' y => ?_⟩
    obtain ⟨e, y⟩ := y
    subst e
    exact step i x _ (y xs q) p
  · have e : i = xs.length := by omega
    subst e
    exact .inl ⟨⟨xs, q, Nat.le_refl _⟩, fin H p⟩
/-- a source that stands while things are made, behind H2 -/
def WSrc2 (K : PySem.W.Frag) (wi : L2.TI) (σ : L2.St) (H H2 : Hp) (a : Addr) (us : List V) : Prop := ((∀ H3, Kp [] H H3 → Tp H2 H3 → SqL K H3 a us) ∧ ∀ R, R (Itl K a) H2 → wi σ H2 R) ∨ ((∀ H3, Kp [] H H3 → Tp H2 H3 → SqT K H3 a us) ∧ ∀ R, R (Itt K a) H2 → wi σ H2 R)
theorem src2_seq {K : PySem.W.Frag} {tv : TE} {σ : L2.St} {H H2 : Hp} {a : Addr} {us : List V} (k : Kp [] H H2) (hv : ∀ R : VK, R (.ref a) H2 → tv σ H2 R) (ha : SqAny K H a us) : WSrc2 K (iSeq K tv) σ H H2 a us := by
  rcases ha with h | h
  · exact .inl ⟨fun H3 k3 _ => k3.ls not0 h, fun R q => hv _ ⟨a, rfl, .inl ⟨⟨_, k.ls not0 h⟩, q⟩⟩⟩
  · exact .inr ⟨fun H3 k3 _ => k3.tp not0 h, fun R q => hv _ ⟨a, rfl, .inr ⟨⟨_, k.tp not0 h⟩, q⟩⟩⟩
/-- [f(x, y) for x in s for y in t(x) if b(x, y)] -/
theorem lc2G {α β γ : Type} {K : PySem.W.Frag} {wi1 wi2 : L2.TI} {g1 g2 : TG} {tt2 : TT} {te : TE} {vs vs2 : List Nat} {σ : L2.St} {H : Hp} {Q : VK} {a : Addr} {us : List V} {gs : List α} {R : Hp → V → α → Prop} {S : Hp → V → γ → Prop} {R2 : Hp → V → β → Prop} (mono : ∀ H H' v x, Tp H H' → R H v x → R H' v x) (monoS : ∀ H H' v x, Tp H H' → S H v x → S H' v x) (mono2 : ∀ H H' v x, Tp H H' → R2 H v x → R2 H' v x)
    (ys : α → List γ) (b : α → γ → Bool) (f : α → γ → β)
    (hw : WSrc K wi1 σ H a us) (hr : Rw (R H) us gs) (hl : (gs.flatMap ys).length ≤ 1000)
    (outer : ∀ v x H' (M : L2.St → Hp → Prop), x ∈ gs → R H' v x → Kp [] H H' → (∀ σ2 H2, wipe σ2 vs = wipe σ vs → Kp [] H' H2 → (∃ a2 us2, WSrc2 K wi2 σ2 H H2 a2 us2 ∧ Rw (S H2) us2 (ys x)) →
      (∀ u y H3 (N : V → Hp → Prop) (N0 : Hp → Prop), y ∈ ys x → S H3 u y → Kp [] H H3 → Tp H2 H3 → (b x y = true → ∀ w H4, R2 H4 w (f x y) → Kp [] H3 H4 → N w H4) → (b x y = false → ∀ H4, Kp [] H3 H4 → N0 H4) →
        g2 u (wipe σ2 vs2) H3 fun σ3 H4 => wipe σ3 vs2 = wipe σ2 vs2 ∧ tt2 σ3 H4 fun c H5 => if c = true then te σ3 H5 N else N0 H5) → M σ2 H2) → g1 v (wipe σ vs) H' M)
    (fin : ∀ D us' H', H D = none → H' D = some (.lst us') → Rw (R2 H') us' (gs.flatMap fun x => ((ys x).filter (b x)).map (f x)) → Kp [] H H' → Q (.ref D) H') : tLc2 wi1 g1 tYes wi2 g2 tt2 te vs vs2 σ H Q := by
  generalize hFl : (fun i : Nat => (gs.take i).flatMap fun x => ((ys x).filter (b x)).map (f x)) = Fl
  have Flen : ∀ i, (Fl i).length ≤ ((gs.take i).flatMap ys).length := fun i => by
    rw [← hFl]
    show ((gs.take i).flatMap _).length ≤ _
    generalize gs.take i = l
    induction l with
    | nil => simp
    | cons x r ih =>
      rw [List.flatMap_cons, List.flatMap_cons, List.length_append, List.length_append, List.length_map]
      have := List.length_filter_le (b x) (ys x)
      omega
  have Tlen : ∀ i, ((gs.take i).flatMap ys).length ≤ (gs.flatMap ys).length := fun i => by
    conv => rhs; rw [← List.take_append_drop i gs, List.flatMap_append, List.length_append]
    omega
  have st : ∀ D, H D = none → ∀ i v H', us[i]? = some v → (∃ us', H' D = some (.lst us') ∧ Rw (R2 H') us' (Fl i) ∧ Kp [] H H') →
      g1 v (wipe σ vs) H' fun σ2 H2 => wipe σ2 vs = wipe σ vs ∧ tYes σ2 H2 fun c H3 => if c = true then tLcIn wi2 g2 tt2 te vs2 D σ2 H3 (fun H' => ∃ us', H' D = some (.lst us') ∧ Rw (R2 H') us' (Fl (i + 1)) ∧ Kp [] H H') else (fun H' => ∃ us', H' D = some (.lst us') ∧ Rw (R2 H') us' (Fl (i + 1)) ∧ Kp [] H H') H3 := by
    rintro D nD i v H' hx ⟨us', hD, hr', kp⟩
    obtain ⟨x, ex, hg⟩ := hr.get hx
    have eF : Fl (i + 1) = Fl i ++ ((ys x).filter (b x)).map (f x) := by
      rw [← hFl]
      show (gs.take (i + 1)).flatMap _ = _
      rw [take_snoc ex, List.flatMap_append]
      simp
    have lF : (Fl i).length + (ys x).length ≤ 1000 := by
      have h1 := Flen i
      have h2 : ((gs.take (i + 1)).flatMap ys).length = ((gs.take i).flatMap ys).length + (ys x).length := by
        rw [take_snoc ex, List.flatMap_append, List.length_append]
        simp
      have h3 := Tlen (i + 1)
      omega
    refine outer v x H' _ (List.mem_of_getElem? ex) (mono _ _ _ _ kp.tps hg) kp fun σ2 H2 hσ k2 ⟨a2, us2, hw2, hr2⟩ turn => ⟨hσ, ?_⟩
    simp only [tYes, if_true]
    have hP0 : ∃ us', H2 D = some (.lst us') ∧ Rw (R2 H2) us' (Fl i ++ (((ys x).take 0).filter (b x)).map (f x)) ∧ Kp [] H H2 ∧ Tp H2 H2 := ⟨us', k2 _ _ not0 hD, by
      rw [List.take_zero, List.filter_nil, List.map_nil, List.append_nil]
      exact hr'.mono fun _ _ r => mono2 _ _ _ _ k2.tps r, kp.trans k2, Tp.refl _⟩
    have hlen2 := hr2.len
    have inner : ∀ j u H3, us2[j]? = some u → (∃ us', H3 D = some (.lst us') ∧ Rw (R2 H3) us' (Fl i ++ (((ys x).take j).filter (b x)).map (f x)) ∧ Kp [] H H3 ∧ Tp H2 H3) →
        g2 u (wipe σ2 vs2) H3 fun σ3 H4 => wipe σ3 vs2 = wipe σ2 vs2 ∧ tt2 σ3 H4 fun c H5 => if c = true then te σ3 H5 fun y H6 => ∃ acc, H6 D = some (.lst acc) ∧ acc.length < sizeLine ∧ (fun H3 => ∃ us', H3 D = some (.lst us') ∧ Rw (R2 H3) us' (Fl i ++ (((ys x).take (j + 1)).filter (b x)).map (f x)) ∧ Kp [] H H3 ∧ Tp H2 H3) (upd H6 D (.lst (acc ++ [y])))
          else (fun H3 => ∃ us', H3 D = some (.lst us') ∧ Rw (R2 H3) us' (Fl i ++ (((ys x).take (j + 1)).filter (b x)).map (f x)) ∧ Kp [] H H3 ∧ Tp H2 H3) H5 := by
      rintro j u H3 hu ⟨us3, hD3, hr3, k3, t3⟩
      obtain ⟨y, ey, hy⟩ := hr2.get hu
      refine turn u y H3 _ _ (List.mem_of_getElem? ey) (monoS _ _ _ _ t3 hy) k3 t3 (fun hb w H4 hw4 k4 => ?_) fun hb H4 k4 => ?_
      · have hD4 := k4 _ _ not0 hD3
        have tp : Tp H4 (upd H4 D (.lst (us3 ++ [w]))) := (Tp.refl _).putL hD4
        refine ⟨us3, hD4, ?_, us3 ++ [w], upd_same, ?_, (k3.trans k4).wr nD, (t3.trans k4.tps).trans tp⟩
        · rw [hr3.len, List.length_append, List.length_map]
          have h1 := List.length_filter_le (b x) ((ys x).take j)
          rw [List.length_take] at h1
          exact smallL (by omega)
        · rw [take_snoc ey, List.filter_append, List.map_append, ← List.append_assoc]
          simp only [List.filter_cons, hb, List.filter_nil, if_true, List.map_cons, List.map_nil]
          exact (hr3.mono fun _ _ r => mono2 _ _ _ _ (k4.tps.trans tp) r).snoc (mono2 _ _ _ _ tp hw4)
      · refine ⟨us3, k4 _ _ not0 hD3, ?_, k3.trans k4, t3.trans k4.tps⟩
        rw [take_snoc ey, List.filter_append]
        simp only [List.filter_cons, hb, List.filter_nil, if_false, Bool.false_eq_true, List.append_nil]
        exact hr3.mono fun _ _ r => mono2 _ _ _ _ k4.tps r
    have ends : ∀ H3, (∃ us', H3 D = some (.lst us') ∧ Rw (R2 H3) us' (Fl i ++ (((ys x).take us2.length).filter (b x)).map (f x)) ∧ Kp [] H H3 ∧ Tp H2 H3) → ∃ us', H3 D = some (.lst us') ∧ Rw (R2 H3) us' (Fl (i + 1)) ∧ Kp [] H H3 := by
      rintro H3 ⟨us3, hD3, hr3, k3, _⟩
      rw [hlen2, List.take_length, ← eF] at hr3
      exact ⟨us3, hD3, hr3, k3⟩
    rcases hw2 with ⟨ha2, hw2⟩ | ⟨ha2, hw2⟩
    · exact hw2 _ (it_listB (xs := us2) (fun j H3 => ∃ us', H3 D = some (.lst us') ∧ Rw (R2 H3) us' (Fl i ++ (((ys x).take j).filter (b x)).map (f x)) ∧ Kp [] H H3 ∧ Tp H2 H3) hP0 (fun j H3 h => by obtain ⟨_, _, _, k, t⟩ := h; exact ha2 H3 k t) (fun j u H3 hu h => inner j u H3 hu h) ends)
    · exact hw2 _ (it_tupB (xs := us2) (fun j H3 => ∃ us', H3 D = some (.lst us') ∧ Rw (R2 H3) us' (Fl i ++ (((ys x).take j).filter (b x)).map (f x)) ∧ Kp [] H H3 ∧ Tp H2 H3) hP0 (fun j H3 h => by obtain ⟨_, _, _, k, t⟩ := h; exact ha2 H3 k t) (fun j u H3 hu h => inner j u H3 hu h) ends)
  have hlen := hr.len
  have begin0 : ∀ D, H D = none → ∃ us', (upd H D (.lst [])) D = some (.lst us') ∧ Rw (R2 (upd H D (.lst []))) us' (Fl 0) ∧ Kp [] H (upd H D (.lst [])) := fun D nD => ⟨[], upd_same, by rw [← hFl]; exact .nil, Kp.new nD⟩
  have over : ∀ D, H D = none → ∀ H', (∃ us', H' D = some (.lst us') ∧ Rw (R2 H') us' (Fl us.length) ∧ Kp [] H H') → Q (.ref D) H' := by
    rintro D nD H' ⟨us', hD, hr', k⟩
    rw [← hFl] at hr'
    have hr' : Rw (R2 H') us' ((gs.take us.length).flatMap fun x => ((ys x).filter (b x)).map (f x)) := hr'
    rw [hlen, List.take_length] at hr'
    exact fin D us' H' nD hD hr' k
  rcases hw with ⟨ha, hw⟩ | ⟨ha, hw⟩
  · exact hw _ fun D nD => it_listB (xs := us) (fun i H' => ∃ us', H' D = some (.lst us') ∧ Rw (R2 H') us' (Fl i) ∧ Kp [] H H') (begin0 D nD) (fun i H' h => by obtain ⟨_, _, _, k⟩ := h; exact k.ls not0 ha) (fun i v H' hx h => st D nD i v H' hx h) (over D nD)
  · exact hw _ fun D nD => it_tupB (xs := us) (fun i H' => ∃ us', H' D = some (.lst us') ∧ Rw (R2 H') us' (Fl i) ∧ Kp [] H H') (begin0 D nD) (fun i H' h => by obtain ⟨_, _, _, k⟩ := h; exact k.tp not0 ha) (fun i v H' hx h => st D nD i v H' hx h) (over D nD)
theorem lc2_src {K : PySem.W.Frag} {tv : TE} {g1 g2 : TG} {tt1 tt2 : TT} {wi2 : L2.TI} {te : TE} {vs vs2 : List Nat} {σ : L2.St} {H : Hp} {Q : VK} (h : tv σ H fun v H1 => tLc2 (iList K (tC v)) g1 tt1 wi2 g2 tt2 te vs vs2 σ H1 Q) : tLc2 (iList K tv) g1 tt1 wi2 g2 tt2 te vs vs2 σ H Q := h
end My

set_option Elab.async false
set_option linter.all false
set_option maxRecDepth 100000
set_option maxHeartbeats 4000000
/-! ### comprehensions of two clauses, the second over a list made at each turn -/
namespace My
open PySem L2
/-- [f(x, y) for x in s for y in t(x) if b(x, y)], t(x) a list made at each turn -/
theorem lc2N {α β γ : Type} {K : PySem.W.Frag} {wi1 wi2 : L2.TI} {g1 g2 : TG} {tt2 : TT} {te : TE} {vs vs2 : List Nat} {σ : L2.St} {H : Hp} {Q : VK} {a : Addr} {us : List V} {gs : List α} {R : Hp → V → α → Prop} {S : Hp → V → γ → Prop} {R2 : Hp → V → β → Prop} (mono : ∀ H H' v x, Tp H H' → R H v x → R H' v x) (monoS : ∀ H H' v x, Tp H H' → S H v x → S H' v x) (mono2 : ∀ H H' v x, Tp H H' → R2 H v x → R2 H' v x)
    (ys : α → List γ) (b : α → γ → Bool) (f : α → γ → β)
    (hw : WSrc K wi1 σ H a us) (hr : Rw (R H) us gs) (hl : (gs.flatMap ys).length ≤ 1000)
    (outer : ∀ v x H' (M : L2.St → Hp → Prop), x ∈ gs → R H' v x → Kp [] H H' → (∀ σ2 H2, wipe σ2 vs = wipe σ vs → Kp [] H' H2 → (∀ R', (∀ a2 us2 H3, Kp [] H2 H3 → H2 a2 = none → H3 a2 = some (.lst us2) → Rw (S H3) us2 (ys x) → R' (Itl K a2) H3) → wi2 σ2 H2 R') →
      (∀ u y H3 (N : V → Hp → Prop) (N0 : Hp → Prop), y ∈ ys x → S H3 u y → Kp [] H H3 → Tp H2 H3 → (b x y = true → ∀ w H4, R2 H4 w (f x y) → Kp [] H3 H4 → N w H4) → (b x y = false → ∀ H4, Kp [] H3 H4 → N0 H4) →
        g2 u (wipe σ2 vs2) H3 fun σ3 H4 => wipe σ3 vs2 = wipe σ2 vs2 ∧ tt2 σ3 H4 fun c H5 => if c = true then te σ3 H5 N else N0 H5) → M σ2 H2) → g1 v (wipe σ vs) H' M)
    (fin : ∀ D us' H', H D = none → H' D = some (.lst us') → Rw (R2 H') us' (gs.flatMap fun x => ((ys x).filter (b x)).map (f x)) → Kp [] H H' → Q (.ref D) H') : tLc2 wi1 g1 tYes wi2 g2 tt2 te vs vs2 σ H Q := by
  generalize hFl : (fun i : Nat => (gs.take i).flatMap fun x => ((ys x).filter (b x)).map (f x)) = Fl
  have Flen : ∀ i, (Fl i).length ≤ ((gs.take i).flatMap ys).length := fun i => by
    rw [← hFl]
    show ((gs.take i).flatMap _).length ≤ _
    generalize gs.take i = l
    induction l with
    | nil => simp
    | cons x r ih =>
      rw [List.flatMap_cons, List.flatMap_cons, List.length_append, List.length_append, List.length_map]
      have := List.length_filter_le (b x) (ys x)
      omega
  have Tlen : ∀ i, ((gs.take i).flatMap ys).length ≤ (gs.flatMap ys).length := fun i => by
    conv => rhs; rw [← List.take_append_drop i gs, List.flatMap_append, List.length_append]
    omega
  have st : ∀ D, H D = none → ∀ i v H', us[i]? = some v → (∃ us', H' D = some (.lst us') ∧ Rw (R2 H') us' (Fl i) ∧ Kp [] H H') →
      g1 v (wipe σ vs) H' fun σ2 H2 => wipe σ2 vs = wipe σ vs ∧ tYes σ2 H2 fun c H3 => if c = true then tLcIn wi2 g2 tt2 te vs2 D σ2 H3 (fun H' => ∃ us', H' D = some (.lst us') ∧ Rw (R2 H') us' (Fl (i + 1)) ∧ Kp [] H H') else (fun H' => ∃ us', H' D = some (.lst us') ∧ Rw (R2 H') us' (Fl (i + 1)) ∧ Kp [] H H') H3 := by
    rintro D nD i v H' hx ⟨us', hD, hr', kp⟩
    obtain ⟨x, ex, hg⟩ := hr.get hx
    have eF : Fl (i + 1) = Fl i ++ ((ys x).filter (b x)).map (f x) := by
      rw [← hFl]
      show (gs.take (i + 1)).flatMap _ = _
      rw [take_snoc ex, List.flatMap_append]
      simp
    have lF : (Fl i).length + (ys x).length ≤ 1000 := by
      have h1 := Flen i
      have h2 : ((gs.take (i + 1)).flatMap ys).length = ((gs.take i).flatMap ys).length + (ys x).length := by
        rw [take_snoc ex, List.flatMap_append, List.length_append]
        simp
      have h3 := Tlen (i + 1)
      omega
    refine outer v x H' _ (List.mem_of_getElem? ex) (mono _ _ _ _ kp.tps hg) kp fun σ2 H0 hσ k20 hw2 turn => ⟨hσ, ?_⟩
    simp only [tYes, if_true]
    refine hw2 _ fun a2 us2 H2 k02 na2 ha2 hr2 => ?_
    have k2 := k20.trans k02
    have aD : a2 ≠ D := fun z => by rw [z, k20 _ _ not0 hD] at na2; cases na2
    have hP0 : ∃ us', H2 D = some (.lst us') ∧ Rw (R2 H2) us' (Fl i ++ (((ys x).take 0).filter (b x)).map (f x)) ∧ Kp [] H H2 ∧ Tp H2 H2 ∧ H2 a2 = some (.lst us2) := ⟨us', k2 _ _ not0 hD, by
      rw [List.take_zero, List.filter_nil, List.map_nil, List.append_nil]
      exact hr'.mono fun _ _ r => mono2 _ _ _ _ k2.tps r, kp.trans k2, Tp.refl _, ha2⟩
    have hlen2 := hr2.len
    have inner : ∀ j u H3, us2[j]? = some u → (∃ us', H3 D = some (.lst us') ∧ Rw (R2 H3) us' (Fl i ++ (((ys x).take j).filter (b x)).map (f x)) ∧ Kp [] H H3 ∧ Tp H2 H3 ∧ H3 a2 = some (.lst us2)) →
        g2 u (wipe σ2 vs2) H3 fun σ3 H4 => wipe σ3 vs2 = wipe σ2 vs2 ∧ tt2 σ3 H4 fun c H5 => if c = true then te σ3 H5 fun y H6 => ∃ acc, H6 D = some (.lst acc) ∧ acc.length < sizeLine ∧ (fun H3 => ∃ us', H3 D = some (.lst us') ∧ Rw (R2 H3) us' (Fl i ++ (((ys x).take (j + 1)).filter (b x)).map (f x)) ∧ Kp [] H H3 ∧ Tp H2 H3 ∧ H3 a2 = some (.lst us2)) (upd H6 D (.lst (acc ++ [y])))
          else (fun H3 => ∃ us', H3 D = some (.lst us') ∧ Rw (R2 H3) us' (Fl i ++ (((ys x).take (j + 1)).filter (b x)).map (f x)) ∧ Kp [] H H3 ∧ Tp H2 H3 ∧ H3 a2 = some (.lst us2)) H5 := by
      rintro j u H3 hu ⟨us3, hD3, hr3, k3, t3, a3⟩
      obtain ⟨y, ey, hy⟩ := hr2.get hu
      refine turn u y H3 _ _ (List.mem_of_getElem? ey) (monoS _ _ _ _ t3 hy) k3 (k02.tps.trans t3) (fun hb w H4 hw4 k4 => ?_) fun hb H4 k4 => ?_
      · have hD4 := k4 _ _ not0 hD3
        have tp : Tp H4 (upd H4 D (.lst (us3 ++ [w]))) := (Tp.refl _).putL hD4
        refine ⟨us3, hD4, ?_, us3 ++ [w], upd_same, ?_, (k3.trans k4).wr nD, (t3.trans k4.tps).trans tp, by rw [upd_ne aD]; exact k4 _ _ not0 a3⟩
        · rw [hr3.len, List.length_append, List.length_map]
          have h1 := List.length_filter_le (b x) ((ys x).take j)
          rw [List.length_take] at h1
          exact smallL (by omega)
        · rw [take_snoc ey, List.filter_append, List.map_append, ← List.append_assoc]
          simp only [List.filter_cons, hb, List.filter_nil, if_true, List.map_cons, List.map_nil]
          exact (hr3.mono fun _ _ r => mono2 _ _ _ _ (k4.tps.trans tp) r).snoc (mono2 _ _ _ _ tp hw4)
      · refine ⟨us3, k4 _ _ not0 hD3, ?_, k3.trans k4, t3.trans k4.tps, k4 _ _ not0 a3⟩
        rw [take_snoc ey, List.filter_append]
        simp only [List.filter_cons, hb, List.filter_nil, if_false, Bool.false_eq_true, List.append_nil]
        exact hr3.mono fun _ _ r => mono2 _ _ _ _ k4.tps r
    have ends : ∀ H3, (∃ us', H3 D = some (.lst us') ∧ Rw (R2 H3) us' (Fl i ++ (((ys x).take us2.length).filter (b x)).map (f x)) ∧ Kp [] H H3 ∧ Tp H2 H3 ∧ H3 a2 = some (.lst us2)) → ∃ us', H3 D = some (.lst us') ∧ Rw (R2 H3) us' (Fl (i + 1)) ∧ Kp [] H H3 := by
      rintro H3 ⟨us3, hD3, hr3, k3, _, _⟩
      rw [hlen2, List.take_length, ← eF] at hr3
      exact ⟨us3, hD3, hr3, k3⟩
    exact it_listB (xs := us2) (fun j H3 => ∃ us', H3 D = some (.lst us') ∧ Rw (R2 H3) us' (Fl i ++ (((ys x).take j).filter (b x)).map (f x)) ∧ Kp [] H H3 ∧ Tp H2 H3 ∧ H3 a2 = some (.lst us2)) hP0 (fun j H3 h => by obtain ⟨_, _, _, _, _, h⟩ := h; exact sq_l h) (fun j u H3 hu h => inner j u H3 hu h) ends
  have hlen := hr.len
  have begin0 : ∀ D, H D = none → ∃ us', (upd H D (.lst [])) D = some (.lst us') ∧ Rw (R2 (upd H D (.lst []))) us' (Fl 0) ∧ Kp [] H (upd H D (.lst [])) := fun D nD => ⟨[], upd_same, by rw [← hFl]; exact .nil, Kp.new nD⟩
  have over : ∀ D, H D = none → ∀ H', (∃ us', H' D = some (.lst us') ∧ Rw (R2 H') us' (Fl us.length) ∧ Kp [] H H') → Q (.ref D) H' := by
    rintro D nD H' ⟨us', hD, hr', k⟩
    rw [← hFl] at hr'
    have hr' : Rw (R2 H') us' ((gs.take us.length).flatMap fun x => ((ys x).filter (b x)).map (f x)) := hr'
    rw [hlen, List.take_length] at hr'
    exact fin D us' H' nD hD hr' k
  rcases hw with ⟨ha, hw⟩ | ⟨ha, hw⟩
  · exact hw _ fun D nD => it_listB (xs := us) (fun i H' => ∃ us', H' D = some (.lst us') ∧ Rw (R2 H') us' (Fl i) ∧ Kp [] H H') (begin0 D nD) (fun i H' h => by obtain ⟨_, _, _, k⟩ := h; exact k.ls not0 ha) (fun i v H' hx h => st D nD i v H' hx h) (over D nD)
  · exact hw _ fun D nD => it_tupB (xs := us) (fun i H' => ∃ us', H' D = some (.lst us') ∧ Rw (R2 H') us' (Fl i) ∧ Kp [] H H') (begin0 D nD) (fun i H' h => by obtain ⟨_, _, _, k⟩ := h; exact k.tp not0 ha) (fun i v H' hx h => st D nD i v H' hx h) (over D nD)
end My

set_option Elab.async false
set_option linter.all false
set_option maxRecDepth 100000
set_option maxHeartbeats 4000000
namespace My
open PySem L2 NdefX
def top (i : Nat) : Stmt := PySem.Challenge.pw_coretower_k45_usual_rules.main.body.getD i (.Pass ⟨0, 0, 0, 0⟩)
def mtop (i j : Nat) : Stmt := match top i with
  | .ClassDef _ _ _ b _ _ _ _ _ _ _ => b.getD j (.Pass ⟨0, 0, 0, 0⟩)
  | _ => .Pass ⟨0, 0, 0, 0⟩
abbrev s_is_name : Stmt := top 9
theorem sc_is_name : FnScope ["value", "letter"] ["value"] (defScope s_is_name) := ⟨rfl, rfl, rfl, by decide +kernel, rfl, by decide +kernel, by decide +kernel⟩
abbrev s_names_ahead : Stmt := top 15
theorem sc_names_ahead : FnScope ["name", "held", "locks", "before", "other"] ["name", "held", "locks"] (defScope s_names_ahead) := ⟨rfl, rfl, rfl, by decide +kernel, rfl, by decide +kernel, by decide +kernel⟩
abbrev s_all_held : Stmt := top 13
theorem sc_all_held : FnScope ["locks", "found", "at", "held", "name"] ["locks"] (defScope s_all_held) := ⟨rfl, rfl, rfl, by decide +kernel, rfl, by decide +kernel, by decide +kernel⟩
abbrev s_all_entries : Stmt := top 14
theorem sc_all_entries : FnScope ["locks", "held", "name"] ["locks"] (defScope s_all_entries) := ⟨rfl, rfl, rfl, by decide +kernel, rfl, by decide +kernel, by decide +kernel⟩
abbrev s_is_lock_step : Stmt := top 18
theorem sc_is_lock_step : FnScope ["step"] ["step"] (defScope s_is_lock_step) := ⟨rfl, rfl, rfl, by decide +kernel, rfl, by decide +kernel, by decide +kernel⟩
abbrev s_held_after : Stmt := top 19
theorem sc_held_after : FnScope ["held", "name", "locks", "other"] ["held", "name", "locks"] (defScope s_held_after) := ⟨rfl, rfl, rfl, by decide +kernel, rfl, by decide +kernel, by decide +kernel⟩
def lets : Str := "abcdefghijklmnopqrstuvwxyz"
def lowC (c : Nat) : Bool := decide (97 ≤ c) && decide (c ≤ 122)
def nameS (z : Str) : Bool := decide (1 ≤ z.length) && (decide (z.length ≤ 8) && z.cps.toList.all lowC)
structure Bt (mg : Str → Option Value) (tL t3 : Tok) : Prop where
  b_isinstance : mg "isinstance" = none
  b_str : mg "str" = none
  b_tuple : mg "tuple" = none
  b_list : mg "list" = none
  b_len : mg "len" = none
  b_all : mg "all" = none
  b_iter : mg "iter" = none
  b_enumerate : mg "enumerate" = none
  c_LETTERS : mg "LETTERS" = some (.str lets tL)
  c_MOST_LOCKS : mg "MOST_LOCKS" = some (.int 3 t3)
/-! ### locks, what is held, entries: by the locks' places -/
/-- v is a tuple of these texts -/
def TS (H : Hp) (v : V) (xs : List Str) : Prop := ∃ a, v = .ref a ∧ H a = some (.tup (xs.map V.str))
theorem TS.tp {H H' : Hp} {v : V} {xs : List Str} (h : TS H v xs) (t : Tp H H') : TS H' v xs := by
  obtain ⟨a, e, h⟩ := h
  exact ⟨a, e, t _ _ h⟩
/-- the name at a place -/
def nmL (zs : List Str) (r : Nat) : Str := zs.getD r ""
/-- the names of what is held -/
def nmH (zs : List Str) (h : List Nat) : List Str := h.map (nmL zs)
abbrev Hd := List Nat
abbrev En := List Nat × Nat
def HT (zs : List Str) (H : Hp) (v : V) (h : Hd) : Prop := TS H v (nmH zs h)
def ET (zs : List Str) (H : Hp) (v : V) (e : En) : Prop := ∃ a u, v = .ref a ∧ H a = some (.tup [u, .str (nmL zs e.2)]) ∧ HT zs H u e.1
theorem HT.tp {zs : List Str} {H H' : Hp} {v : V} {h : Hd} (a : HT zs H v h) (t : Tp H H') : HT zs H' v h := TS.tp a t
theorem ET.tp {zs : List Str} {H H' : Hp} {v : V} {e : En} (h : ET zs H v e) (t : Tp H H') : ET zs H' v e := by
  obtain ⟨a, u, e, h, k⟩ := h
  exact ⟨a, u, e, t _ _ h, k.tp t⟩
/-- the locks of a rule: one to three good names -/
structure LkOk (zs : List Str) : Prop where
  pos : 1 ≤ zs.length
  le : zs.length ≤ 3
  nd : zs.Nodup
  nm : ∀ z ∈ zs, nameS z = true
/-- at a the locks, a list or a tuple -/
def LkAt (K : PySem.W.Frag) (H : Hp) (a : Addr) (zs : List Str) : Prop := SqAny K H a (zs.map V.str)
theorem nm_at {zs : List Str} {r : Nat} (h : r < zs.length) : zs[r]? = some (nmL zs r) := by
  unfold nmL
  rw [List.getD_eq_getElem?_getD, List.getElem?_eq_getElem h]
  rfl
theorem nm_inj {zs : List Str} (L : LkOk zs) {r t : Nat} (hr : r < zs.length) (ht : t < zs.length) (e : nmL zs r = nmL zs t) : r = t := by
  obtain ⟨h1, h2⟩ := List.getElem?_eq_some_iff.mp (nm_at hr)
  obtain ⟨h3, h4⟩ := List.getElem?_eq_some_iff.mp (nm_at ht)
  exact (List.getElem_inj L.nd).mp (h2.trans (e.trans h4.symm))
theorem nm_eq {zs : List Str} (L : LkOk zs) {r t : Nat} (hr : r < zs.length) (ht : t < zs.length) : (nmL zs r = nmL zs t) ↔ r = t := ⟨nm_inj L hr ht, fun e => by rw [e]⟩
theorem nmH_eq {zs : List Str} (L : LkOk zs) : ∀ {a b : Hd}, (∀ x ∈ a, x < zs.length) → (∀ x ∈ b, x < zs.length) → (nmH zs a = nmH zs b ↔ a = b)
  | [], [], _, _ => by simp [nmH]
  | [], _ :: _, _, _ => by simp [nmH]
  | _ :: _, [], _, _ => by simp [nmH]
  | x :: a, y :: b, ha, hb => by
    have ih := nmH_eq L (a := a) (b := b) (fun z h => ha z (List.mem_cons_of_mem _ h)) (fun z h => hb z (List.mem_cons_of_mem _ h))
    have e1 : nmH zs (x :: a) = nmL zs x :: nmH zs a := rfl
    have e2 : nmH zs (y :: b) = nmL zs y :: nmH zs b := rfl
    rw [e1, e2, List.cons.injEq, List.cons.injEq, ih, nm_eq L (ha x List.mem_cons_self) (hb y List.mem_cons_self)]
theorem mem_nmH {zs : List Str} (L : LkOk zs) {r : Nat} {a : Hd} (hr : r < zs.length) (ha : ∀ x ∈ a, x < zs.length) : nmL zs r ∈ nmH zs a ↔ r ∈ a := by
  unfold nmH
  rw [List.mem_map]
  constructor
  · rintro ⟨x, hx, e⟩
    rw [← nm_inj L (ha x hx) hr e]
    exact hx
  · exact fun h => ⟨r, h, rfl⟩
theorem inV_str {z : Str} : ∀ {ks : List Str}, inV (.str z) (ks.map V.str) = decide (z ∈ ks)
  | [] => by simp [inV]
  | k :: ks => by
    have ih := inV_str (z := z) (ks := ks)
    unfold inV at ih ⊢
    rw [List.map_cons, List.any_cons, ih]
    have e : eqV (V.str k) (V.str z) = (k == z) := rfl
    rw [e]
    by_cases h : z = k
    · subst h; simp
    · have : ¬ k = z := fun e => h e.symm
      simp [h, this, beq_eq_false_iff_ne.mpr this]
/-- the places below n -/
def below (n : Nat) (h : Hd) : Prop := ∀ x ∈ h, x < n
def aheadR (r : Nat) (h : Hd) : Hd := h.filter fun x => decide (x < r)
end My

set_option Elab.async false
set_option linter.all false
set_option maxRecDepth 100000
set_option maxHeartbeats 4000000
namespace My
open PySem L2 NdefX
section
variable {P : Program} {w : World} {K : PySem.W.Frag} {mg : Str → Option Value} {base : Heap} {tL t3 : Tok}
def LowIn (z : Str) (D : Addr) (H : Hp) (i : Nat) (H' : Hp) : Prop := H' D = some (.lst ((z.cps.toList.take i).map fun c => V.bl (lowC c))) ∧ Kp [] H H'
theorem lets_mem (c : Nat) : decide (c ∈ lets.cps.toList) = lowC c := by
  have e : lets.cps.toList = (List.range 26).map (97 + ·) := by decide +kernel
  rw [e, Bool.eq_iff_iff, decide_eq_true_eq]
  unfold lowC
  rw [Bool.and_eq_true, decide_eq_true_eq, decide_eq_true_eq, List.mem_map]
  constructor
  · rintro ⟨i, hi, rfl⟩
    have := List.mem_range.mp hi
    omega
  · rintro ⟨h1, h2⟩
    exact ⟨c - 97, List.mem_range.mpr (by omega), by omega⟩
theorem all_take {α : Type} {f : α → Bool} {l : List α} : ((l.map fun c => f c).all id) = l.all f := by
  rw [List.all_map]; rfl
/-- is_name of a good name -/
def spName1 : Sp := fun vs H Q _ => ∃ z : Str, vs = [.str z] ∧ nameS z = true ∧ ∀ H', Kp [] H H' → Q (.bl true) H'
theorem ok_is_name {f : Addr} {fd : FuncData} (D : Df K mg "is_name" s_is_name ["value"] f fd) (T : Bt mg tL t3) : FnOk P w K mg base CX0 1 f fd ["value"] spName1 := by
  refine D.F.ok sc_is_name (fun vs H Q E h => ?_) (fun cdv A outer s H vs Q E hr h => ?_)
  · obtain ⟨z, rfl, _⟩ := h
    rfl
  · obtain ⟨z, rfl, nm, q⟩ := h
    refine ⟨_, (pss_cons (ps_if (pt_not (pt_val (pe_callB (id := "isinstance") (r := rIsi K) call_isi (by rfl) T.b_isinstance (by decide +kernel) (pa_cons (pv 0) (pa_cons (pe_bltn (v := .ty "str") (by rfl) T.b_str (by decide +kernel) rfl) pa_nil))))) (pss_one (ps_ret pe_bl)) pss_nil)
      (pss_one (ps_ret (pe_and (pe_chain op_le op_le pe_int (pe_callB (id := "len") call_len_str (by rfl) T.b_len PySem.boot_len (pa_cons (pv 0) pa_nil)) pe_int) (pe_one (pe_callB (id := "all") (r := rAll K) (cr_all rfl) (by rfl) T.b_all (by decide +kernel) (pa_cons (pe_lc (own := [("letter", 1)]) (g := (gName 1)) (tt := tYes) rfl sc_is_name.nd (pi_str (pv 0)) (blkOk_by (N := ["value", "letter"]) (sc := defScope s_is_name) (by decide +kernel)) (fun _ _ _ _ _ => (pg_name (i := 1) sc_is_name.nd rfl (Or.inl rfl))) (fun _ _ _ _ _ => pts_nil) (fun _ _ _ _ _ => (pe_cmpR op_in_sign (pv 1) (pe_glob (v := .str lets) rfl T.c_LETTERS ⟨_, rfl⟩) (by rfl)))) pa_nil))))))), ?_⟩
    try simp (maxSteps := 1000000) only [tSeq, tIfS, tTest, tOp, tUn, tCB, tCons, tNil, tVar, tC, rI0, rI, rU, rEq, rNe, tRet, tRetN, tAsg, gName, gSub, tBM, tBM0, tNext, tB, tNot, tAnd, tOr, tIf, tCall, tDrop, tBreak, tCont, L2.start, tDGet, sDPut, tTup, tLst, tDNewK, tRevL, rCat, rAppend, rPop, rSetL, tAndV, tOrV, tNotV, tSl, tPart, tNoPart, tM1, gTup, gCons, gNil, cxK, cxnK, List.map_cons, List.map_nil, List.length_cons, List.length_nil, List.replicate, List.cons_append, List.nil_append, List.append_nil, List.set_cons_zero, List.set_cons_succ, List.getElem?_cons_zero, List.getElem?_cons_succ, Option.some.injEq, V.ref.injEq, V.int.injEq, V.str.injEq, V.bl.injEq, V.ty.injEq, exists_eq_left', exists_eq_left, exists_and_left, List.cons.injEq, and_true, true_and, sc_ii, sc_ss, sc_bb, sc_ni, sc_in, sc_is, sc_si, sc_nn, decide_true, decide_false, reduceCtorEq, Bool.false_eq_true, if_true, if_false, ite_true, ite_false, exists_const, eq_self, false_and, and_false, or_false, false_or, exists_false, Evl.rLenS, rSum, wipe, tYes, exists_eq, exists_eq', rIxL, rIxT, rIxS, exists_and_right, gt_iff_lt, not_true_eq_false, not_false_eq_true, Bool.not_true, Bool.not_false, decide_eq_true_eq, Nat.reduceSub, Nat.reduceAdd, List.append_assoc, tChain, tDIn, tDNotIn, sDDel, tAug, ipI, rInt1_int, rInt1_bl]
    refine isi_str_str ?_
    try simp (maxSteps := 1000000) only [tSeq, tIfS, tTest, tOp, tUn, tCB, tCons, tNil, tVar, tC, rI0, rI, rU, rEq, rNe, tRet, tRetN, tAsg, gName, gSub, tBM, tBM0, tNext, tB, tNot, tAnd, tOr, tIf, tCall, tDrop, tBreak, tCont, L2.start, tDGet, sDPut, tTup, tLst, tDNewK, tRevL, rCat, rAppend, rPop, rSetL, tAndV, tOrV, tNotV, tSl, tPart, tNoPart, tM1, gTup, gCons, gNil, cxK, cxnK, List.map_cons, List.map_nil, List.length_cons, List.length_nil, List.replicate, List.cons_append, List.nil_append, List.append_nil, List.set_cons_zero, List.set_cons_succ, List.getElem?_cons_zero, List.getElem?_cons_succ, Option.some.injEq, V.ref.injEq, V.int.injEq, V.str.injEq, V.bl.injEq, V.ty.injEq, exists_eq_left', exists_eq_left, exists_and_left, List.cons.injEq, and_true, true_and, sc_ii, sc_ss, sc_bb, sc_ni, sc_in, sc_is, sc_si, sc_nn, decide_true, decide_false, reduceCtorEq, Bool.false_eq_true, if_true, if_false, ite_true, ite_false, exists_const, eq_self, false_and, and_false, or_false, false_or, exists_false, Evl.rLenS, rSum, wipe, tYes, exists_eq, exists_eq', rIxL, rIxT, rIxS, exists_and_right, gt_iff_lt, not_true_eq_false, not_false_eq_true, Bool.not_true, Bool.not_false, decide_eq_true_eq, Nat.reduceSub, Nat.reduceAdd, List.append_assoc, tChain, tDIn, tDNotIn, sDDel, tAug, ipI, rInt1_int, rInt1_bl]
    have zs : z.cps.toList.length = z.length := Array.length_toList
    unfold nameS at nm
    rw [Bool.and_eq_true, Bool.and_eq_true, decide_eq_true_eq, decide_eq_true_eq] at nm
    obtain ⟨h1, h8, hl⟩ := nm
    have e1 : (1 : Int) ≤ (z.length : Nat) := by omega
    have e8 : ((z.length : Nat) : Int) ≤ 8 := by omega
    refine ⟨small (by omega), ?_⟩
    rw [if_pos e1, if_pos e8]
    refine ⟨.str z, rfl, z, rfl, fun o no => lc_it walk_str (LowIn z o H) ⟨upd_same, Kp.new no⟩ (fun _ _ _ _ => True.intro) ?_ ?_⟩
    · rintro i x H1 H2 hi ⟨ho, kp⟩ ⟨rfl, c, hc, rfl⟩
      try simp (maxSteps := 1000000) only [tSeq, tIfS, tTest, tOp, tUn, tCB, tCons, tNil, tVar, tC, rI0, rI, rU, rEq, rNe, tRet, tRetN, tAsg, gName, gSub, tBM, tBM0, tNext, tB, tNot, tAnd, tOr, tIf, tCall, tDrop, tBreak, tCont, L2.start, tDGet, sDPut, tTup, tLst, tDNewK, tRevL, rCat, rAppend, rPop, rSetL, tAndV, tOrV, tNotV, tSl, tPart, tNoPart, tM1, gTup, gCons, gNil, cxK, cxnK, List.map_cons, List.map_nil, List.length_cons, List.length_nil, List.replicate, List.cons_append, List.nil_append, List.append_nil, List.set_cons_zero, List.set_cons_succ, List.getElem?_cons_zero, List.getElem?_cons_succ, Option.some.injEq, V.ref.injEq, V.int.injEq, V.str.injEq, V.bl.injEq, V.ty.injEq, exists_eq_left', exists_eq_left, exists_and_left, List.cons.injEq, and_true, true_and, sc_ii, sc_ss, sc_bb, sc_ni, sc_in, sc_is, sc_si, sc_nn, decide_true, decide_false, reduceCtorEq, Bool.false_eq_true, if_true, if_false, ite_true, ite_false, exists_const, eq_self, false_and, and_false, or_false, false_or, exists_false, Evl.rLenS, rSum, wipe, tYes, exists_eq, exists_eq', rIxL, rIxT, rIxS, exists_and_right, gt_iff_lt, not_true_eq_false, not_false_eq_true, Bool.not_true, Bool.not_false, decide_eq_true_eq, Nat.reduceSub, Nat.reduceAdd, List.append_assoc, tChain, tDIn, tDNotIn, sDDel, tAug, ipI, rInt1_int, rInt1_bl]
      refine ⟨c, rfl, _, ho, ?_, ?_, kp.wr no⟩
      · rw [List.length_map, List.length_take, zs]; exact smallL (by omega)
      · rw [upd_same, lets_mem, take_snoc (x := c) (by rw [← hc]; simp), List.map_append]; rfl
    · rintro H1 ⟨ho, kp⟩
      have q2 := q H1 kp
      refine ⟨_, z.cps.toList.map lowC, rfl, sq_l (ho.trans ?_), ?_⟩
      · rw [List.take_of_length_le (by simp), List.map_map]; rfl
      · rw [show ((z.cps.toList.map lowC).all id) = true from all_take.trans hl]
        exact q2
theorem nmH_len {zs : List Str} {h : Hd} : (nmH zs h).length = h.length := List.length_map _
theorem LkAt.kp {K : PySem.W.Frag} {H H' : Hp} {a : Addr} {zs : List Str} (h : LkAt K H a zs) (k : Kp [] H H') : LkAt K H' a zs := h.imp (k.ls not0) (k.tp not0)
theorem idx_nm {zs : List Str} (L : LkOk zs) {r : Nat} (hr : r < zs.length) : zs.idxOf (nmL zs r) = r := by
  have hz : nmL zs r ∈ zs := List.mem_of_getElem? (nm_at hr)
  have h1 := List.idxOf_lt_length_iff.mpr hz
  have h2 : zs[zs.idxOf (nmL zs r)] = nmL zs r := List.getElem_idxOf h1
  obtain ⟨h3, h4⟩ := List.getElem?_eq_some_iff.mp (nm_at hr)
  exact (List.getElem_inj L.nd).mp (h2.trans h4.symm)
theorem mem_take_nm {zs : List Str} (L : LkOk zs) {r x : Nat} (hx : x < zs.length) : nmL zs x ∈ zs.take r ↔ x < r := by
  constructor
  · intro h
    obtain ⟨j, ej⟩ := List.getElem?_of_mem h
    have jl : j < (zs.take r).length := (List.getElem?_eq_some_iff.mp ej).1
    rw [List.length_take] at jl
    rw [List.getElem?_take_of_lt (by omega)] at ej
    have : zs[j]? = zs[x]? := ej.trans (nm_at hx).symm
    obtain ⟨h1, h2⟩ := List.getElem?_eq_some_iff.mp ej
    obtain ⟨h3, h4⟩ := List.getElem?_eq_some_iff.mp (nm_at hx)
    have := (List.getElem_inj L.nd).mp (h2.trans h4.symm)
    omega
  · intro h
    exact List.mem_of_getElem? (i := x) (by rw [List.getElem?_take_of_lt h]; exact nm_at hx)
theorem ht_rw {zs : List Str} {h : Hd} : Rw (fun v x => v = V.str (nmL zs x)) ((nmH zs h).map V.str) h := ⟨by simp [nmH], fun {i x} e => by
  unfold nmH at e
  rw [List.map_map, List.getElem?_map] at e
  cases hh : h[i]? with
  | none => rw [hh] at e; cases e
  | some y => rw [hh] at e; exact ⟨y, rfl, (Option.some.inj e).symm⟩⟩
theorem flat_strs : ∀ zs : List Str, (zs.map V.str).all flatV = true
  | [] => rfl
  | _ :: r => by
    rw [List.map_cons, List.all_cons, flat_strs r]
    rfl
theorem rw_strs {zs : List Str} : ∀ {us : List V} {h : Hd}, Rw (fun v x => v = V.str (nmL zs x)) us h → us = (nmH zs h).map V.str
  | us, [], r => r.isNil
  | us, x :: h, r => by
    obtain ⟨u, t, rfl, e, r'⟩ := r.ex
    subst e
    rw [rw_strs r']
    rfl
def spAhead (K : PySem.W.Frag) : Sp := fun vs H Q _ => ∃ (u : V) (a : Addr) (zs : List Str) (r : Nat) (h : Hd), vs = [.str (nmL zs r), u, .ref a] ∧ LkOk zs ∧ r < zs.length ∧ HT zs H u h ∧ below zs.length h ∧ h.length ≤ 10 ∧ LkAt K H a zs ∧ ∀ v H', HT zs H' v (aheadR r h) → Kp [] H H' → Q v H'
theorem ok_names_ahead {f : Addr} {fd : FuncData} (D : Df K mg "names_ahead" s_names_ahead ["name", "held", "locks"] f fd) (T : Bt mg tL t3) : FnOk P w K mg base CX0 1 f fd ["name", "held", "locks"] (spAhead K) := by
  refine D.F.ok sc_names_ahead (fun vs H Q E h => ?_) (fun cdv A outer s H vs Q E hr h => ?_)
  · obtain ⟨_, _, _, _, _, rfl, _⟩ := h
    rfl
  · obtain ⟨u, a, zs, r, h, rfl, L, hr', ⟨ua, rfl, hu⟩, hb, h10, ha, q⟩ := h
    refine ⟨_, (pss_cons (ps_set (i := 3) sc_names_ahead.nd rfl (Or.inr rfl) (pe_slice sl_list (pe_callTy call_list_of (by rfl) T.b_list (by decide +kernel) (pa_cons (pv 2) pa_nil)) po_none (po_some (pe_bm PySem.F.plainAttrs_list PySem.F.slot_list_index PySem.F.type_list_index mt_index (pe_callTy call_list_of (by rfl) T.b_list (by decide +kernel) (pa_cons (pv 2) pa_nil)) (pa_cons (pv 0) pa_nil)))))
      (pss_one (ps_ret (pe_callTy call_tuple_of (by rfl) T.b_tuple (by decide +kernel) (pa_cons (pe_lc (own := [("other", 4)]) (g := (gName 4)) rfl sc_names_ahead.nd (pi_tup (pv 1)) (blkOk_by (N := ["name", "held", "locks", "before", "other"]) (sc := defScope s_names_ahead) (by decide +kernel)) (fun _ _ _ _ _ => (pg_name (i := 4) sc_names_ahead.nd rfl (Or.inl rfl))) (fun _ _ _ _ _ => (pts_one (pt_cmpR (r := rIn K false) op_in_seq (pv 4) (pv 3) (by rfl)))) (fun _ _ _ _ _ => (pv 4))) pa_nil))))), ?_⟩
    try simp (maxSteps := 1000000) only [tSeq, tIfS, tTest, tOp, tUn, tCB, tCons, tNil, tVar, tC, rI0, rI, rU, rEq, rNe, tRet, tRetN, tAsg, gName, gSub, tBM, tBM0, tNext, tB, tNot, tAnd, tOr, tIf, tCall, tDrop, tBreak, tCont, L2.start, tDGet, sDPut, tTup, tLst, tDNewK, tRevL, rCat, rAppend, rPop, rSetL, tAndV, tOrV, tNotV, tSl, tPart, tNoPart, tM1, gTup, gCons, gNil, cxK, cxnK, List.map_cons, List.map_nil, List.length_cons, List.length_nil, List.replicate, List.cons_append, List.nil_append, List.append_nil, List.set_cons_zero, List.set_cons_succ, List.getElem?_cons_zero, List.getElem?_cons_succ, Option.some.injEq, V.ref.injEq, V.int.injEq, V.str.injEq, V.bl.injEq, V.ty.injEq, exists_eq_left', exists_eq_left, exists_and_left, List.cons.injEq, and_true, true_and, sc_ii, sc_ss, sc_bb, sc_ni, sc_in, sc_is, sc_si, sc_nn, decide_true, decide_false, reduceCtorEq, Bool.false_eq_true, if_true, if_false, ite_true, ite_false, exists_const, eq_self, false_and, and_false, or_false, false_or, exists_false, Evl.rLenS, rSum, wipe, tYes, exists_eq, exists_eq', rIxL, rIxT, rIxS, exists_and_right, gt_iff_lt, not_true_eq_false, not_false_eq_true, Bool.not_true, Bool.not_false, decide_eq_true_eq, Nat.reduceSub, Nat.reduceAdd, List.append_assoc, tChain, tDIn, tDNotIn, sDDel, tAug, ipI, rInt1_int, rInt1_bl]
    refine ⟨_, ha, fun l nl => ?_⟩
    have kl := (Kp.new nl : Kp [] H (upd H l (.lst (zs.map V.str))))
    refine ⟨_, LkAt.kp ha kl, fun l1 nl1 => ?_⟩
    have k1 := kl.trans (Kp.new nl1 (o := .lst (zs.map V.str)))
    have h1 : (upd (upd H l (.lst (zs.map V.str))) l1 (.lst (zs.map V.str))) l1 = some (.lst (zs.map V.str)) := upd_same
    have h0 := (Kp.new nl1 (S := []) (o := .lst (zs.map V.str))) _ _ not0 (upd_same (H := H) (a := l) (o := .lst (zs.map V.str)))
    generalize upd (upd H l (.lst (zs.map V.str))) l1 (.lst (zs.map V.str)) = H1 at k1 h1 h0 ⊢
    refine ⟨.inl ⟨rfl, _, sq_l h1⟩, l1, _, _, r, _, rfl, rfl, sq_l h1, rfl, flat_strs zs, by rw [List.getElem?_map, nm_at hr']; rfl, by simp [eqV], fun m z' hm hz => ?_, ?_⟩
    · rw [List.getElem?_map, nm_at (by omega)] at hz
      cases hz
      have : ¬ nmL zs m = nmL zs r := fun e => by have := nm_inj L (by omega) hr' e; omega
      exact beq_eq_false_iff_ne.mpr this
    refine ⟨_, rfl, l, _, rfl, sq_l h0, fun pb npb => ?_⟩
    rw [cut_0j]
    have k2 := k1.trans (Kp.new npb (o := .lst ((zs.take r).map V.str)))
    have h2 : (upd H1 pb (.lst ((zs.take r).map V.str))) pb = some (.lst ((zs.take r).map V.str)) := upd_same
    generalize upd H1 pb (.lst ((zs.take r).map V.str)) = H2 at k2 h2 ⊢
    refine lcG (R := fun _ v x => v = V.str (nmL zs x)) (R2 := fun _ v x => v = V.str (nmL zs x)) (fun _ _ _ _ _ h => h) (fun _ _ _ _ _ h => h) (fun x => decide (x < r)) id (src_tup (fun R q' => ⟨_, rfl, q'⟩) (sq_t (k2 _ _ not0 hu))) ht_rw (by omega) (fun v x H3 N N0 hx hv k3 hN hN0 => ?_) fun D us' H3 nD hD hrw k3 => ?_
    · subst hv
      have xn := hb x hx
      refine ⟨by simp [wipe], ?_⟩
      try simp (maxSteps := 1000000) only [tSeq, tIfS, tTest, tOp, tUn, tCB, tCons, tNil, tVar, tC, rI0, rI, rU, rEq, rNe, tRet, tRetN, tAsg, gName, gSub, tBM, tBM0, tNext, tB, tNot, tAnd, tOr, tIf, tCall, tDrop, tBreak, tCont, L2.start, tDGet, sDPut, tTup, tLst, tDNewK, tRevL, rCat, rAppend, rPop, rSetL, tAndV, tOrV, tNotV, tSl, tPart, tNoPart, tM1, gTup, gCons, gNil, cxK, cxnK, List.map_cons, List.map_nil, List.length_cons, List.length_nil, List.replicate, List.cons_append, List.nil_append, List.append_nil, List.set_cons_zero, List.set_cons_succ, List.getElem?_cons_zero, List.getElem?_cons_succ, Option.some.injEq, V.ref.injEq, V.int.injEq, V.str.injEq, V.bl.injEq, V.ty.injEq, exists_eq_left', exists_eq_left, exists_and_left, List.cons.injEq, and_true, true_and, sc_ii, sc_ss, sc_bb, sc_ni, sc_in, sc_is, sc_si, sc_nn, decide_true, decide_false, reduceCtorEq, Bool.false_eq_true, if_true, if_false, ite_true, ite_false, exists_const, eq_self, false_and, and_false, or_false, false_or, exists_false, Evl.rLenS, rSum, wipe, tYes, exists_eq, exists_eq', rIxL, rIxT, rIxS, exists_and_right, gt_iff_lt, not_true_eq_false, not_false_eq_true, Bool.not_true, Bool.not_false, decide_eq_true_eq, Nat.reduceSub, Nat.reduceAdd, List.append_assoc, tChain, tDIn, tDNotIn, sDDel, tAug, ipI, rInt1_int, rInt1_bl]
      refine ⟨pb, _, rfl, .inl (sq_l (k3 _ _ not0 h2)), rfl, flat_strs _, _, rfl, ?_⟩
      simp only [Bool.false_eq_true, if_false, inV_str]
      by_cases h : x < r
      · rw [decide_eq_true ((mem_take_nm L xn).mpr h), if_pos rfl]
        exact hN (decide_eq_true h) _ _ rfl (Kp.refl _ _)
      · rw [decide_eq_false (fun e => h ((mem_take_nm L xn).mp e)), if_neg (by decide)]
        exact hN0 (decide_eq_false h) _ (Kp.refl _ _)
    · rw [List.map_id] at hrw
      have e := rw_strs hrw
      refine ⟨D, rfl, us', .inl ⟨sq_l hD, fun t nt => ?_⟩⟩
      subst e
      exact q _ _ ⟨t, rfl, upd_same⟩ ((k2.trans k3).trans (Kp.new nt))
end
end My

set_option Elab.async false
set_option linter.all false
set_option maxRecDepth 100000
set_option maxHeartbeats 4000000
namespace My
open PySem L2 NdefX
/-! ### data of names, of what is held, of entries -/
def sD (xs : List Str) : PyData := .tuple (xs.map PyData.str)
theorem eqvAll_strs : ∀ (a b : List Str), PyData.eqvAll (a.map PyData.str) (b.map PyData.str) = decide (a = b)
  | [], [] => rfl
  | [], _ :: _ => rfl
  | _ :: _, [] => rfl
  | x :: r, y :: t => by
    show (PyData.eqv (.str x) (.str y) && PyData.eqvAll (r.map PyData.str) (t.map PyData.str)) = _
    rw [eqvAll_strs r t]
    show ((x == y) && decide (r = t)) = _
    by_cases h : x = y
    · subst h
      by_cases h2 : r = t
      · simp [h2]
      · simp [h2]
    · rw [beq_eq_false_iff_ne.mpr h, Bool.false_and, decide_eq_false (by intro z; cases z; exact h rfl)]
theorem eqv_sD (a b : List Str) : PyData.eqv (sD a) (sD b) = decide (a = b) := eqvAll_strs a b
/-- data that may be compared, at most k deep -/
def Fk (k : Nat) (d : PyData) : Prop := PyData.canLay0 d = true ∧ d.depth ≤ k
theorem Fk.sh {k : Nat} {d : PyData} (h : Fk k d) (hk : k ≤ 60) : SeqAt.shaped d = true := by
  have : decide (d.depth ≤ 64) = true := decide_eq_true (by have := h.2; omega)
  show (PyData.canLay0 d && decide (d.depth ≤ 64)) = true
  rw [h.1, this]; rfl
theorem Fk.mono {k j : Nat} {d : PyData} (h : Fk k d) (e : k ≤ j) : Fk j d := ⟨h.1, Nat.le_trans h.2 e⟩
theorem fk_all {k : Nat} : ∀ {ds : List PyData}, (∀ d ∈ ds, Fk k d) → PyData.canLayAll0 ds = true ∧ PyData.depthAll ds ≤ k
  | [], _ => ⟨rfl, Nat.zero_le _⟩
  | d :: r, h => by
    have ih := fk_all (ds := r) fun x hx => h x (List.mem_cons_of_mem _ hx)
    have h1 := h d List.mem_cons_self
    constructor
    · show (PyData.canLay0 d && PyData.canLayAll0 r) = true
      rw [h1.1, ih.1]; rfl
    · show max d.depth (PyData.depthAll r) ≤ k
      have := h1.2
      omega
theorem fk_tup {k : Nat} {ds : List PyData} (h : ∀ d ∈ ds, Fk k d) : Fk (k + 1) (.tuple ds) := ⟨(fk_all h).1, by
  have := (fk_all h).2
  show PyData.depthAll ds + 1 ≤ k + 1
  omega⟩
theorem fk_lst {k : Nat} {ds : List PyData} (h : ∀ d ∈ ds, Fk k d) : Fk (k + 1) (.list ds) := ⟨(fk_all h).1, by
  have := (fk_all h).2
  show PyData.depthAll ds + 1 ≤ k + 1
  omega⟩
theorem fk_name {z : Str} (h : nameS z = true) : Fk 1 (.str z) := by
  unfold nameS at h
  rw [Bool.and_eq_true, Bool.and_eq_true, decide_eq_true_eq, decide_eq_true_eq, List.all_eq_true] at h
  refine ⟨?_, by simp [PyData.depth]⟩
  show PySem.PyData.canLay0 (.str z) = true
  unfold PySem.PyData.canLay0 PySem.PyData.strOk
  rw [← Array.all_toList, List.all_eq_true]
  intro c hc
  have := h.2.2 c hc
  unfold lowC at this
  rw [Bool.and_eq_true, decide_eq_true_eq, decide_eq_true_eq] at this
  exact decide_eq_true (by omega)
theorem nm_good {zs : List Str} (L : LkOk zs) {r : Nat} (hr : r < zs.length) : nameS (nmL zs r) = true := L.nm _ (List.mem_of_getElem? (nm_at hr))
def hD (zs : List Str) (h : Hd) : PyData := sD (nmH zs h)
def eD (zs : List Str) (e : En) : PyData := .tuple [hD zs e.1, .str (nmL zs e.2)]
theorem fk_hD {zs : List Str} (L : LkOk zs) {h : Hd} (hb : below zs.length h) : Fk 2 (hD zs h) := fk_tup fun d hd => by
  obtain ⟨z, hz, rfl⟩ := List.mem_map.mp hd
  obtain ⟨x, hx, rfl⟩ := List.mem_map.mp hz
  exact fk_name (nm_good L (hb x hx))
/-- an entry whose places are below n -/
def belowE (n : Nat) (e : En) : Prop := below n e.1 ∧ e.2 < n
theorem fk_eD {zs : List Str} (L : LkOk zs) {e : En} (hb : belowE zs.length e) : Fk 3 (eD zs e) := fk_tup fun d hd => by
  rcases List.mem_cons.mp hd with rfl | hd
  · exact fk_hD L hb.1
  · rw [List.mem_singleton.mp hd]
    exact (fk_name (nm_good L hb.2)).mono (by decide)
theorem eqv_hD {zs : List Str} (L : LkOk zs) {a b : Hd} (ha : below zs.length a) (hb : below zs.length b) : PyData.eqv (hD zs a) (hD zs b) = decide (a = b) := by
  unfold hD
  rw [eqv_sD, Bool.eq_iff_iff, decide_eq_true_eq, decide_eq_true_eq]
  exact nmH_eq L ha hb
theorem eqv_eD {zs : List Str} (L : LkOk zs) {a b : En} (ha : belowE zs.length a) (hb : belowE zs.length b) : PyData.eqv (eD zs a) (eD zs b) = decide (a = b) := by
  obtain ⟨a1, a2⟩ := a
  obtain ⟨b1, b2⟩ := b
  show (PyData.eqv (hD zs a1) (hD zs b1) && (PyData.eqv (.str (nmL zs a2)) (.str (nmL zs b2)) && true)) = _
  rw [eqv_hD L ha.1 hb.1, Bool.and_true]
  show (decide (a1 = b1) && (nmL zs a2 == nmL zs b2)) = _
  rw [Bool.eq_iff_iff, Bool.and_eq_true, decide_eq_true_eq, beq_iff_eq, decide_eq_true_eq, nm_eq L ha.2 hb.2, Prod.mk.injEq]
theorem any_hD {zs : List Str} (L : LkOk zs) {h : Hd} (hh : below zs.length h) : ∀ {gs : List Hd}, (∀ g ∈ gs, below zs.length g) → ((gs.map (hD zs)).any fun z => PyData.eqv z (hD zs h)) = decide (h ∈ gs)
  | [], _ => by simp
  | g :: gs, hg => by
    rw [List.map_cons, List.any_cons, any_hD L hh fun x hx => hg x (List.mem_cons_of_mem _ hx), eqv_hD L (hg g List.mem_cons_self) hh]
    by_cases e : g = h
    · simp [e]
    · have : ¬ h = g := fun z => e z.symm
      simp [e, this]
theorem any_eD {zs : List Str} (L : LkOk zs) {h : En} (hh : belowE zs.length h) : ∀ {gs : List En}, (∀ g ∈ gs, belowE zs.length g) → ((gs.map (eD zs)).any fun z => PyData.eqv z (eD zs h)) = decide (h ∈ gs)
  | [], _ => by simp
  | g :: gs, hg => by
    rw [List.map_cons, List.any_cons, any_eD L hh fun x hx => hg x (List.mem_cons_of_mem _ hx), eqv_eD L (hg g List.mem_cons_self) hh]
    by_cases e : g = h
    · simp [e]
    · have : ¬ h = g := fun z => e z.symm
      simp [e, this]
theorem TS.dp {K : PySem.W.Frag} {H : Hp} {v : V} {xs : List Str} (h : TS H v xs) : Dp K H v (sD xs) := by
  obtain ⟨a, rfl, h⟩ := h
  exact .tup (sq_t h) (dpStrs xs)
theorem HT.dp {K : PySem.W.Frag} {zs : List Str} {H : Hp} {v : V} {h : Hd} (a : HT zs H v h) : Dp K H v (hD zs h) := TS.dp a
theorem ET.dp {K : PySem.W.Frag} {zs : List Str} {H : Hp} {v : V} {e : En} (h : ET zs H v e) : Dp K H v (eD zs e) := by
  obtain ⟨a, u, rfl, h, k⟩ := h
  exact .tup (sq_t h) (.cons k.dp (.cons (.str _) .nil))
theorem rw_dp {α : Type} {K : PySem.W.Frag} {H : Hp} {R : V → α → Prop} {dt : α → PyData} (hd : ∀ v x, R v x → Dp K H v (dt x)) : ∀ {us : List V} {gs : List α}, Rw R us gs → DpAll K H us (gs.map dt)
  | us, [], r => by rw [r.isNil]; exact .nil
  | us, g :: gs, r => by
    obtain ⟨u, t, rfl, e, r'⟩ := r.ex
    exact .cons (hd _ _ e) (rw_dp hd r')
section
variable {K : PySem.W.Frag} {zs : List Str} {H : Hp} {Q : VK}
theorem eq_hd {x y : V} {a b : Hd} (L : LkOk zs) (ha : below zs.length a) (hb : below zs.length b) (hx : HT zs H x a) (hy : HT zs H y b) (q : Q (.bl (decide (a = b))) H) : rEqD K x y H Q :=
  ⟨_, _, hx.dp, hy.dp, (fk_hD L ha).sh (by decide), (fk_hD L hb).sh (by decide), by rw [eqv_hD L ha hb]; exact q⟩
theorem in_hds {x : V} {l : Addr} {us : List V} {h : Hd} {gs : List Hd} (L : LkOk zs) (hh : below zs.length h) (hg : ∀ g ∈ gs, below zs.length g) (hx : HT zs H x h) (hl : SqL K H l us) (hu : Rw (HT zs H) us gs) (q : Q (.bl (decide (h ∈ gs))) H) : rInD K x (.ref l) H Q :=
  ⟨_, _, hx.dp, .lst hl (rw_dp (fun _ _ z => z.dp) hu), (fk_hD L hh).sh (by decide), (fk_lst (k := 2) fun d hd => by obtain ⟨g, hg', rfl⟩ := List.mem_map.mp hd; exact fk_hD L (hg g hg')).sh (by decide), by rw [any_hD L hh hg]; exact q⟩
theorem nin_hds {x : V} {l : Addr} {us : List V} {h : Hd} {gs : List Hd} (L : LkOk zs) (hh : below zs.length h) (hg : ∀ g ∈ gs, below zs.length g) (hx : HT zs H x h) (hl : SqL K H l us) (hu : Rw (HT zs H) us gs) (q : Q (.bl (!decide (h ∈ gs))) H) : rNotInD K x (.ref l) H Q :=
  ⟨_, _, hx.dp, .lst hl (rw_dp (fun _ _ z => z.dp) hu), (fk_hD L hh).sh (by decide), (fk_lst (k := 2) fun d hd => by obtain ⟨g, hg', rfl⟩ := List.mem_map.mp hd; exact fk_hD L (hg g hg')).sh (by decide), by rw [any_hD L hh hg]; exact q⟩
theorem in_ens {x : V} {l : Addr} {us : List V} {h : En} {gs : List En} (L : LkOk zs) (hh : belowE zs.length h) (hg : ∀ g ∈ gs, belowE zs.length g) (hx : ET zs H x h) (hl : SqL K H l us) (hu : Rw (ET zs H) us gs) (q : Q (.bl (decide (h ∈ gs))) H) : rInD K x (.ref l) H Q :=
  ⟨_, _, hx.dp, .lst hl (rw_dp (fun _ _ z => z.dp) hu), (fk_eD L hh).sh (by decide), (fk_lst (k := 3) fun d hd => by obtain ⟨g, hg', rfl⟩ := List.mem_map.mp hd; exact fk_eD L (hg g hg')).sh (by decide), by rw [any_eD L hh hg]; exact q⟩
theorem nin_ens {x : V} {l : Addr} {us : List V} {h : En} {gs : List En} (L : LkOk zs) (hh : belowE zs.length h) (hg : ∀ g ∈ gs, belowE zs.length g) (hx : ET zs H x h) (hl : SqL K H l us) (hu : Rw (ET zs H) us gs) (q : Q (.bl (!decide (h ∈ gs))) H) : rNotInD K x (.ref l) H Q :=
  ⟨_, _, hx.dp, .lst hl (rw_dp (fun _ _ z => z.dp) hu), (fk_eD L hh).sh (by decide), (fk_lst (k := 3) fun d hd => by obtain ⟨g, hg', rfl⟩ := List.mem_map.mp hd; exact fk_eD L (hg g hg')).sh (by decide), by rw [any_eD L hh hg]; exact q⟩
end
end My

set_option Elab.async false
set_option linter.all false
set_option maxRecDepth 100000
set_option maxHeartbeats 4000000
namespace My
open PySem L2 NdefX
/-- what is held behind lock or free -/
def insR (n r : Nat) (h : Hd) : Hd := (List.range n).filter fun x => decide (x ∈ h) || decide (x = r)
def delR (r : Nat) (h : Hd) : Hd := h.filter fun x => !decide (x = r)
def aftR (n r : Nat) (h : Hd) : Hd := if r ∈ h then delR r h else insR n r h
theorem lk_rw {zs : List Str} : Rw (fun v x => v = V.str (nmL zs x)) (zs.map V.str) (List.range zs.length) := ⟨by simp, fun {i u} e => by
  rw [List.getElem?_map] at e
  have hi : i < zs.length := by
    cases hh : zs[i]? with
    | none => rw [hh] at e; cases e
    | some y => exact (List.getElem?_eq_some_iff.mp hh).1
  rw [nm_at hi] at e
  exact ⟨i, List.getElem?_range hi, (Option.some.inj e).symm⟩⟩
def stepH (n : Nat) (F : List Hd) (i : Nat) : List Hd := match F[i]? with
  | some h => F ++ ((List.range n).filter fun r => decide (h = aheadR r h)).map fun r => h ++ [r]
  | none => F
def runH (n : Nat) : Nat → List Hd
  | 0 => [[]]
  | i + 1 => stepH n (runH n i) i
/-- all that may be held -/
def hls (n : Nat) : List Hd := runH n 8
def okH (n i : Nat) : Bool := decide ((runH n i).length ≤ 8) && ((runH n i).all fun h => (h.all fun x => decide (x < n)) && decide (h.length ≤ 3)) && (decide (i < (runH n i).length) || decide (runH n i = hls n))
theorem factH0 : ∀ n, n < 4 → 1 ≤ n → ∀ i, i < 9 → okH n i = true := by decide +kernel
theorem factH {n : Nat} (h1 : n < 4) (h2 : 1 ≤ n) {i : Nat} (hi : i < 9) : (runH n i).length ≤ 8 ∧ (∀ h ∈ runH n i, below n h ∧ h.length ≤ 3) ∧ (i < (runH n i).length ∨ runH n i = hls n) := by
  have h := factH0 n h1 h2 i hi
  unfold okH at h
  rw [Bool.and_eq_true, Bool.and_eq_true, decide_eq_true_eq, List.all_eq_true, Bool.or_eq_true, decide_eq_true_eq, decide_eq_true_eq] at h
  refine ⟨h.1.1, fun g hg => ?_, h.2⟩
  have := h.1.2 g hg
  rw [Bool.and_eq_true, List.all_eq_true, decide_eq_true_eq] at this
  exact ⟨fun x hx => of_decide_eq_true (this.1 x hx), this.2⟩
/-- all entries -/
def entsOf (n : Nat) (h : Hd) : List En := ((List.range n).filter fun r => !decide (r ∈ h)).map fun r => (h, r)
def ens (n : Nat) : List En := (hls n).flatMap (entsOf n)
def okE (n : Nat) : Bool := decide ((ens n).length ≤ 12) && decide (ens n).Nodup && ((ens n).all fun e => (e.1.all fun x => decide (x < n)) && decide (e.2 < n) && decide (e.1 ∈ hls n) && !decide (e.2 ∈ e.1)) && decide (hls n).Nodup && ((hls n).all fun h => (h.all fun x => decide (x < n)) && decide (h.length ≤ 3) && (List.range n).all fun r => decide (aftR n r h ∈ hls n)) && decide ([] ∈ hls n)
theorem factE0 : ∀ n, n < 4 → 1 ≤ n → okE n = true := by decide +kernel
structure EnOk (n : Nat) : Prop where
  len : (ens n).length ≤ 12
  nd : (ens n).Nodup
  ent : ∀ e ∈ ens n, belowE n e ∧ e.1 ∈ hls n ∧ e.2 ∉ e.1
  ndh : (hls n).Nodup
  hld : ∀ h ∈ hls n, below n h ∧ h.length ≤ 3 ∧ ∀ r, r < n → aftR n r h ∈ hls n
  nil : [] ∈ hls n
theorem factE {n : Nat} (h1 : n < 4) (h2 : 1 ≤ n) : EnOk n := by
  have h := factE0 n h1 h2
  unfold okE at h
  simp only [Bool.and_eq_true, decide_eq_true_eq, List.all_eq_true] at h
  obtain ⟨⟨⟨⟨⟨a, b⟩, c⟩, d⟩, e⟩, f⟩ := h
  refine ⟨a, b, fun x hx => ?_, d, fun x hx => ?_, f⟩
  · obtain ⟨⟨⟨c1, c2⟩, c3⟩, c4⟩ := c x hx
    exact ⟨⟨c1, c2⟩, c3, fun hm => by rw [decide_eq_true hm] at c4; cases c4⟩
  · obtain ⟨⟨e1, e2⟩, e3⟩ := e x hx
    exact ⟨e1, e2, fun r hr => e3 r (List.mem_range.mpr hr)⟩
theorem HT.of {zs : List Str} {H : Hp} {a : Addr} {h : Hd} (e : H a = some (.tup ((nmH zs h).map V.str))) : HT zs H (.ref a) h := ⟨a, rfl, e⟩
theorem flat_ranks {zs : List Str} {us : List V} {h : Hd} (r : Rw (fun v x => v = V.str (nmL zs x)) us h) : us = (nmH zs h).map V.str := rw_strs r
section
variable {P : Program} {w : World} {K : PySem.W.Frag} {mg : Str → Option Value} {base : Heap} {tL t3 : Tok}
theorem in_nm {zs : List Str} {H : Hp} {a : Addr} {h : Hd} {r : Nat} {Q : VK} (L : LkOk zs) (hr : r < zs.length) (hb : below zs.length h) (ha : SqT K H a ((nmH zs h).map V.str)) (q : Q (.bl (decide (r ∈ h))) H) : rIn K false (.str (nmL zs r)) (.ref a) H Q := by
  refine ⟨a, _, rfl, .inr ha, rfl, flat_strs _, ?_⟩
  simp only [Bool.false_eq_true, if_false, inV_str]
  rw [show decide (nmL zs r ∈ nmH zs h) = decide (r ∈ h) from by rw [Bool.eq_iff_iff, decide_eq_true_eq, decide_eq_true_eq]; exact mem_nmH L hr hb]
  exact q
theorem nin_nm {zs : List Str} {H : Hp} {a : Addr} {h : Hd} {r : Nat} {Q : VK} (L : LkOk zs) (hr : r < zs.length) (hb : below zs.length h) (ha : SqT K H a ((nmH zs h).map V.str)) (q : Q (.bl (!decide (r ∈ h))) H) : rIn K true (.str (nmL zs r)) (.ref a) H Q := by
  refine ⟨a, _, rfl, .inr ha, rfl, flat_strs _, ?_⟩
  simp only [if_true, inV_str]
  rw [show decide (nmL zs r ∈ nmH zs h) = decide (r ∈ h) from by rw [Bool.eq_iff_iff, decide_eq_true_eq, decide_eq_true_eq]; exact mem_nmH L hr hb]
  exact q
def spAft (K : PySem.W.Frag) : Sp := fun vs H Q _ => ∃ (u : V) (a : Addr) (zs : List Str) (r : Nat) (h : Hd), vs = [u, .str (nmL zs r), .ref a] ∧ LkOk zs ∧ r < zs.length ∧ HT zs H u h ∧ below zs.length h ∧ h.length ≤ 10 ∧ LkAt K H a zs ∧ ∀ v H', HT zs H' v (aftR zs.length r h) → Kp [] H H' → Q v H'
theorem ok_held_after {f : Addr} {fd : FuncData} (D : Df K mg "held_after" s_held_after ["held", "name", "locks"] f fd) (T : Bt mg tL t3) : FnOk P w K mg base CX0 1 f fd ["held", "name", "locks"] (spAft K) := by
  refine D.F.ok sc_held_after (fun vs H Q E h => ?_) (fun cdv A outer s H vs Q E hr h => ?_)
  · obtain ⟨_, _, _, _, _, rfl, _⟩ := h
    rfl
  · obtain ⟨u, a, zs, r, h, rfl, L, hr', ⟨ua, rfl, hu⟩, hb, h10, ha, q⟩ := h
    refine ⟨_, (pss_cons (ps_if (pt_cmpR op_in_seq (pv 1) (pv 0) (by rfl)) (pss_one (ps_ret (pe_callTy call_tuple_of (by rfl) T.b_tuple (by decide +kernel) (pa_cons (pe_lc (own := [("other", 3)]) (g := (gName 3)) rfl sc_held_after.nd (pi_tup (pv 0)) (blkOk_by (N := ["held", "name", "locks", "other"]) (sc := defScope s_held_after) (by decide +kernel)) (fun _ _ _ _ _ => (pg_name (i := 3) sc_held_after.nd rfl (Or.inl rfl))) (fun _ _ _ _ _ => (pts_one (pt_cmpR op_ne (pv 3) (pv 1) (nomark _)))) (fun _ _ _ _ _ => (pv 3))) pa_nil)))) pss_nil)
      (pss_one (ps_ret (pe_callTy call_tuple_of (by rfl) T.b_tuple (by decide +kernel) (pa_cons (pe_lc (own := [("other", 3)]) (g := (gName 3)) rfl sc_held_after.nd (pi_seq (pv 2)) (blkOk_by (N := ["held", "name", "locks", "other"]) (sc := defScope s_held_after) (by decide +kernel)) (fun _ _ _ _ _ => (pg_name (i := 3) sc_held_after.nd rfl (Or.inl rfl))) (fun _ _ _ _ _ => (pts_one (PW.pt (pw_or (pt_cmpR (r := rIn K false) op_in_seq (pv 3) (pv 0) (by rfl)) (pw_or1 (pt_cmpR op_eq (pv 3) (pv 1) (nomark _))))))) (fun _ _ _ _ _ => (pv 3))) pa_nil))))), ?_⟩
    try simp (maxSteps := 1000000) only [tSeq, tIfS, tTest, tOp, tUn, tCB, tCons, tNil, tVar, tC, rI0, rI, rU, rEq, rNe, tRet, tRetN, tAsg, gName, gSub, tBM, tBM0, tNext, tB, tNot, tAnd, tOr, tIf, tCall, tDrop, tBreak, tCont, L2.start, tDGet, sDPut, tTup, tLst, tDNewK, tRevL, rCat, rAppend, rPop, rSetL, tAndV, tOrV, tNotV, tSl, tPart, tNoPart, tM1, gTup, gCons, gNil, cxK, cxnK, List.map_cons, List.map_nil, List.length_cons, List.length_nil, List.replicate, List.cons_append, List.nil_append, List.append_nil, List.set_cons_zero, List.set_cons_succ, List.getElem?_cons_zero, List.getElem?_cons_succ, Option.some.injEq, V.ref.injEq, V.int.injEq, V.str.injEq, V.bl.injEq, V.ty.injEq, exists_eq_left', exists_eq_left, exists_and_left, List.cons.injEq, and_true, true_and, sc_ii, sc_ss, sc_bb, sc_ni, sc_in, sc_is, sc_si, sc_nn, decide_true, decide_false, reduceCtorEq, Bool.false_eq_true, if_true, if_false, ite_true, ite_false, exists_const, eq_self, false_and, and_false, or_false, false_or, exists_false, Evl.rLenS, rSum, wipe, tYes, exists_eq, exists_eq', rIxL, rIxT, rIxS, exists_and_right, gt_iff_lt, not_true_eq_false, not_false_eq_true, Bool.not_true, Bool.not_false, decide_eq_true_eq, Nat.reduceSub, Nat.reduceAdd, List.append_assoc, tChain, tDIn, tDNotIn, sDDel, tAug, ipI, rInt1_int, rInt1_bl]
    refine in_nm L hr' hb (sq_t hu) ⟨_, rfl, ?_⟩
    unfold aftR at q
    by_cases hm : r ∈ h
    · rw [decide_eq_true hm, if_pos rfl]
      rw [if_pos hm] at q
      try simp (maxSteps := 1000000) only [tSeq, tIfS, tTest, tOp, tUn, tCB, tCons, tNil, tVar, tC, rI0, rI, rU, rEq, rNe, tRet, tRetN, tAsg, gName, gSub, tBM, tBM0, tNext, tB, tNot, tAnd, tOr, tIf, tCall, tDrop, tBreak, tCont, L2.start, tDGet, sDPut, tTup, tLst, tDNewK, tRevL, rCat, rAppend, rPop, rSetL, tAndV, tOrV, tNotV, tSl, tPart, tNoPart, tM1, gTup, gCons, gNil, cxK, cxnK, List.map_cons, List.map_nil, List.length_cons, List.length_nil, List.replicate, List.cons_append, List.nil_append, List.append_nil, List.set_cons_zero, List.set_cons_succ, List.getElem?_cons_zero, List.getElem?_cons_succ, Option.some.injEq, V.ref.injEq, V.int.injEq, V.str.injEq, V.bl.injEq, V.ty.injEq, exists_eq_left', exists_eq_left, exists_and_left, List.cons.injEq, and_true, true_and, sc_ii, sc_ss, sc_bb, sc_ni, sc_in, sc_is, sc_si, sc_nn, decide_true, decide_false, reduceCtorEq, Bool.false_eq_true, if_true, if_false, ite_true, ite_false, exists_const, eq_self, false_and, and_false, or_false, false_or, exists_false, Evl.rLenS, rSum, wipe, tYes, exists_eq, exists_eq', rIxL, rIxT, rIxS, exists_and_right, gt_iff_lt, not_true_eq_false, not_false_eq_true, Bool.not_true, Bool.not_false, decide_eq_true_eq, Nat.reduceSub, Nat.reduceAdd, List.append_assoc, tChain, tDIn, tDNotIn, sDDel, tAug, ipI, rInt1_int, rInt1_bl]
      refine lcG (R := fun _ v x => v = V.str (nmL zs x)) (R2 := fun _ v x => v = V.str (nmL zs x)) (fun _ _ _ _ _ h => h) (fun _ _ _ _ _ h => h) (fun x => !decide (x = r)) id (src_tup (fun R q' => ⟨_, rfl, q'⟩) (sq_t hu)) ht_rw (by omega) (fun v x H3 N N0 hx hv k3 hN hN0 => ?_) fun D us' H3 nD hD hrw k3 => ?_
      · subst hv
        have xn := hb x hx
        refine ⟨by simp [wipe], ?_⟩
        try simp (maxSteps := 1000000) only [tSeq, tIfS, tTest, tOp, tUn, tCB, tCons, tNil, tVar, tC, rI0, rI, rU, rEq, rNe, tRet, tRetN, tAsg, gName, gSub, tBM, tBM0, tNext, tB, tNot, tAnd, tOr, tIf, tCall, tDrop, tBreak, tCont, L2.start, tDGet, sDPut, tTup, tLst, tDNewK, tRevL, rCat, rAppend, rPop, rSetL, tAndV, tOrV, tNotV, tSl, tPart, tNoPart, tM1, gTup, gCons, gNil, cxK, cxnK, List.map_cons, List.map_nil, List.length_cons, List.length_nil, List.replicate, List.cons_append, List.nil_append, List.append_nil, List.set_cons_zero, List.set_cons_succ, List.getElem?_cons_zero, List.getElem?_cons_succ, Option.some.injEq, V.ref.injEq, V.int.injEq, V.str.injEq, V.bl.injEq, V.ty.injEq, exists_eq_left', exists_eq_left, exists_and_left, List.cons.injEq, and_true, true_and, sc_ii, sc_ss, sc_bb, sc_ni, sc_in, sc_is, sc_si, sc_nn, decide_true, decide_false, reduceCtorEq, Bool.false_eq_true, if_true, if_false, ite_true, ite_false, exists_const, eq_self, false_and, and_false, or_false, false_or, exists_false, Evl.rLenS, rSum, wipe, tYes, exists_eq, exists_eq', rIxL, rIxT, rIxS, exists_and_right, gt_iff_lt, not_true_eq_false, not_false_eq_true, Bool.not_true, Bool.not_false, decide_eq_true_eq, Nat.reduceSub, Nat.reduceAdd, List.append_assoc, tChain, tDIn, tDNotIn, sDDel, tAug, ipI, rInt1_int, rInt1_bl]
        by_cases e : x = r
        · subst e
          rw [decide_eq_true rfl, if_neg (by decide)]
          exact hN0 (by simp) _ (Kp.refl _ _)
        · rw [decide_eq_false (fun z => e (nm_inj L xn hr' z)), if_pos (by decide)]
          exact hN (by simp [e]) _ _ rfl (Kp.refl _ _)
      · rw [List.map_id] at hrw
        have e := rw_strs hrw
        refine ⟨D, rfl, us', .inl ⟨sq_l hD, fun t nt => ?_⟩⟩
        subst e
        exact q _ _ ⟨t, rfl, upd_same⟩ (k3.trans (Kp.new nt))
    · rw [decide_eq_false hm, if_neg (by decide)]
      rw [if_neg hm] at q
      try simp (maxSteps := 1000000) only [tSeq, tIfS, tTest, tOp, tUn, tCB, tCons, tNil, tVar, tC, rI0, rI, rU, rEq, rNe, tRet, tRetN, tAsg, gName, gSub, tBM, tBM0, tNext, tB, tNot, tAnd, tOr, tIf, tCall, tDrop, tBreak, tCont, L2.start, tDGet, sDPut, tTup, tLst, tDNewK, tRevL, rCat, rAppend, rPop, rSetL, tAndV, tOrV, tNotV, tSl, tPart, tNoPart, tM1, gTup, gCons, gNil, cxK, cxnK, List.map_cons, List.map_nil, List.length_cons, List.length_nil, List.replicate, List.cons_append, List.nil_append, List.append_nil, List.set_cons_zero, List.set_cons_succ, List.getElem?_cons_zero, List.getElem?_cons_succ, Option.some.injEq, V.ref.injEq, V.int.injEq, V.str.injEq, V.bl.injEq, V.ty.injEq, exists_eq_left', exists_eq_left, exists_and_left, List.cons.injEq, and_true, true_and, sc_ii, sc_ss, sc_bb, sc_ni, sc_in, sc_is, sc_si, sc_nn, decide_true, decide_false, reduceCtorEq, Bool.false_eq_true, if_true, if_false, ite_true, ite_false, exists_const, eq_self, false_and, and_false, or_false, false_or, exists_false, Evl.rLenS, rSum, wipe, tYes, exists_eq, exists_eq', rIxL, rIxT, rIxS, exists_and_right, gt_iff_lt, not_true_eq_false, not_false_eq_true, Bool.not_true, Bool.not_false, decide_eq_true_eq, Nat.reduceSub, Nat.reduceAdd, List.append_assoc, tChain, tDIn, tDNotIn, sDDel, tAug, ipI, rInt1_int, rInt1_bl]
      refine lcG (R := fun _ v x => v = V.str (nmL zs x)) (R2 := fun _ v x => v = V.str (nmL zs x)) (fun _ _ _ _ _ h => h) (fun _ _ _ _ _ h => h) (fun x => decide (x ∈ h) || decide (x = r)) id (src_seq (fun R q' => ⟨_, rfl, q'⟩) ha) lk_rw (by rw [List.length_range]; have := L.le; omega) (fun v x H3 N N0 hx hv k3 hN hN0 => ?_) fun D us' H3 nD hD hrw k3 => ?_
      · subst hv
        have xn := List.mem_range.mp hx
        refine ⟨by simp [wipe], ?_⟩
        try simp (maxSteps := 1000000) only [tSeq, tIfS, tTest, tOp, tUn, tCB, tCons, tNil, tVar, tC, rI0, rI, rU, rEq, rNe, tRet, tRetN, tAsg, gName, gSub, tBM, tBM0, tNext, tB, tNot, tAnd, tOr, tIf, tCall, tDrop, tBreak, tCont, L2.start, tDGet, sDPut, tTup, tLst, tDNewK, tRevL, rCat, rAppend, rPop, rSetL, tAndV, tOrV, tNotV, tSl, tPart, tNoPart, tM1, gTup, gCons, gNil, cxK, cxnK, List.map_cons, List.map_nil, List.length_cons, List.length_nil, List.replicate, List.cons_append, List.nil_append, List.append_nil, List.set_cons_zero, List.set_cons_succ, List.getElem?_cons_zero, List.getElem?_cons_succ, Option.some.injEq, V.ref.injEq, V.int.injEq, V.str.injEq, V.bl.injEq, V.ty.injEq, exists_eq_left', exists_eq_left, exists_and_left, List.cons.injEq, and_true, true_and, sc_ii, sc_ss, sc_bb, sc_ni, sc_in, sc_is, sc_si, sc_nn, decide_true, decide_false, reduceCtorEq, Bool.false_eq_true, if_true, if_false, ite_true, ite_false, exists_const, eq_self, false_and, and_false, or_false, false_or, exists_false, Evl.rLenS, rSum, wipe, tYes, exists_eq, exists_eq', rIxL, rIxT, rIxS, exists_and_right, gt_iff_lt, not_true_eq_false, not_false_eq_true, Bool.not_true, Bool.not_false, decide_eq_true_eq, Nat.reduceSub, Nat.reduceAdd, List.append_assoc, tChain, tDIn, tDNotIn, sDDel, tAug, ipI, rInt1_int, rInt1_bl]
        refine in_nm L xn hb (k3.tp not0 (sq_t hu)) ⟨_, rfl, ?_⟩
        by_cases e : x ∈ h
        · rw [decide_eq_true e, if_pos rfl]
          exact hN (by simp [e]) _ _ rfl (Kp.refl _ _)
        · rw [decide_eq_false e, if_neg (by decide)]
          by_cases e2 : x = r
          · rw [if_pos (by rw [e2])]
            exact hN (by simp [e2]) _ _ rfl (Kp.refl _ _)
          · rw [if_neg (fun z => e2 (nm_inj L xn hr' z))]
            exact hN0 (by simp [e, e2]) _ (Kp.refl _ _)
      · rw [List.map_id] at hrw
        have e := rw_strs hrw
        refine ⟨D, rfl, us', .inl ⟨sq_l hD, fun t nt => ?_⟩⟩
        subst e
        exact q _ _ ⟨t, rfl, upd_same⟩ (k3.trans (Kp.new nt))
end
end My

set_option Elab.async false
set_option linter.all false
set_option maxRecDepth 100000
set_option maxHeartbeats 4000000
namespace My
open PySem L2 NdefX
def WHd (K : PySem.W.Frag) (zs : List Str) (a fl : Addr) (H : Hp) (k : Nat) (σ : L2.St) (H' : Hp) : Prop := ∃ (i : Nat) (us : List V) (c4 c5 : Option V), σ = [some (.ref a), some (.ref fl), some (.int (i : Nat)), c4, c5] ∧ H' fl = some (.lst us) ∧ Rw (HT zs H') us (runH zs.length i) ∧ Kp [] H H' ∧ i ≤ 8 ∧ i ≤ (runH zs.length i).length ∧ k = 9 - i
section
variable {P : Program} {w : World} {K : PySem.W.Frag} {mg : Str → Option Value} {base : Heap} {tL t3 : Tok}
def spHeld (K : PySem.W.Frag) : Sp := fun vs H Q _ => ∃ (a : Addr) (zs : List Str), vs = [.ref a] ∧ LkOk zs ∧ LkAt K H a zs ∧ ∀ l us H', H l = none → H' l = some (.lst us) → Rw (HT zs H') us (hls zs.length) → Kp [] H H' → Q (.ref l) H'
theorem ok_all_held {f : Addr} {fd : FuncData} (D : Df K mg "all_held" s_all_held ["locks"] f fd) (T : Bt mg tL t3) {f1 : Addr} {fd1 : FuncData} (D_names_ahead : Df K mg "names_ahead" s_names_ahead ["name", "held", "locks"] f1 fd1) (G_names_ahead : FnOk P w K mg base CX0 1 f1 fd1 ["name", "held", "locks"] (spAhead K)) : FnOk P w K mg base CX0 2 f fd ["locks"] (spHeld K) := by
  refine D.F.ok sc_all_held (fun vs H Q E h => ?_) (fun cdv A outer s H vs Q E hr h => ?_)
  · obtain ⟨_, _, rfl, _⟩ := h
    rfl
  · obtain ⟨a, zs, rfl, L, ha, q⟩ := h
    have hu := hu_of hr
    have n1 := L.pos
    have n3 : zs.length < 4 := by have := L.le; omega
    refine ⟨_, (pss_cons (ps_set (i := 1) sc_all_held.nd rfl (Or.inl rfl) (pe_lst (pa_cons (pe_tup pa_nil) pa_nil)))
      (pss_cons (ps_set (i := 2) sc_all_held.nd rfl (Or.inl rfl) pe_int)
      (pss_cons (ps_while PassesOwn.never (pt_cmpR op_lt (pv 2) (pe_callB (id := "len") (r := Evl.rLenS K) call_len_seq (by rfl) T.b_len PySem.boot_len (pa_cons (pv 1) pa_nil)) (nomark _)) (pss_cons (ps_set (i := 3) sc_all_held.nd rfl (Or.inr rfl) (pe_ix (r := rIxL K) ix_list (pv 1) (pv 2) (fun _ _ => rfl)))
      (pss_cons (ps_expr (pe_bm PySem.F.plainAttrs_list PySem.F.slot_list_extend PySem.F.type_list_extend mt_extend (pv 1) (pa_cons (pe_lc (own := [("name", 4)]) (g := (gName 4)) rfl sc_all_held.nd (pi_seq (pv 0)) (blkOk_by (N := ["locks", "found", "at", "held", "name"]) (sc := defScope s_all_held) (by decide +kernel)) (fun _ _ _ _ _ => (pg_name (i := 4) sc_all_held.nd rfl (Or.inl rfl))) (fun _ _ _ _ _ => (pts_one (pt_cmpR (r := rEqD K) (op_eqD hr.units) (pv 3) (pe_call G_names_ahead (hr.mono (by decide)) rfl D_names_ahead.g D_names_ahead.F.kp D_names_ahead.b .nil pass0 (pa_cons (pv 4) (pa_cons (pv 3) (pa_cons (pv 0) pa_nil)))) (nomark _)))) (fun _ _ _ _ _ => (pe_op (r := rCatA K) op_catA (pv 3) (pe_tup (pa_cons (pv 4) pa_nil))))) pa_nil)))
      (pss_one (ps_aug (i := 2) sc_all_held.nd rfl (Or.inl rfl) pe_int ip_add)))))
      (pss_one (ps_ret (pv 1)))))), ?_⟩
    try simp (maxSteps := 1000000) only [tSeq, tIfS, tTest, tOp, tUn, tCB, tCons, tNil, tVar, tC, rI0, rI, rU, rEq, rNe, tRet, tRetN, tAsg, gName, gSub, tBM, tBM0, tNext, tB, tNot, tAnd, tOr, tIf, tCall, tDrop, tBreak, tCont, L2.start, tDGet, sDPut, tTup, tLst, tDNewK, tRevL, rCat, rAppend, rPop, rSetL, tAndV, tOrV, tNotV, tSl, tPart, tNoPart, tM1, gTup, gCons, gNil, cxK, cxnK, List.map_cons, List.map_nil, List.length_cons, List.length_nil, List.replicate, List.cons_append, List.nil_append, List.append_nil, List.set_cons_zero, List.set_cons_succ, List.getElem?_cons_zero, List.getElem?_cons_succ, Option.some.injEq, V.ref.injEq, V.int.injEq, V.str.injEq, V.bl.injEq, V.ty.injEq, exists_eq_left', exists_eq_left, exists_and_left, List.cons.injEq, and_true, true_and, sc_ii, sc_ss, sc_bb, sc_ni, sc_in, sc_is, sc_si, sc_nn, decide_true, decide_false, reduceCtorEq, Bool.false_eq_true, if_true, if_false, ite_true, ite_false, exists_const, eq_self, false_and, and_false, or_false, false_or, exists_false, Evl.rLenS, rSum, wipe, tYes, exists_eq, exists_eq', rIxL, rIxT, rIxS, exists_and_right, gt_iff_lt, not_true_eq_false, not_false_eq_true, Bool.not_true, Bool.not_false, decide_eq_true_eq, Nat.reduceSub, Nat.reduceAdd, List.append_assoc, tChain, tDIn, tDNotIn, sDDel, tAug, ipI, rInt1_int, rInt1_bl]
    refine ⟨Nat.zero_le _, fun e0 ne0 => ⟨by rw [sizeLine_eq]; decide, fun fl nfl => ?_⟩⟩
    have k0 := (Kp.new ne0 : Kp [] H (upd H e0 (.tup [])))
    have k1 := k0.trans (Kp.new nfl (o := .lst [.ref e0]))
    have he : (upd (upd H e0 (.tup [])) fl (.lst [.ref e0])) e0 = some (.tup []) := (Kp.new nfl (S := []) (o := .lst [.ref e0])) _ _ not0 upd_same
    have hf : (upd (upd H e0 (.tup [])) fl (.lst [.ref e0])) fl = some (.lst [.ref e0]) := upd_same
    have nfl0 : H fl = none := k0.free0 nfl
    generalize upd (upd H e0 (.tup [])) fl (.lst [.ref e0]) = H1 at k1 he hf ⊢
    refine ⟨WHd K zs a fl H, ⟨9, 0, _, _, _, rfl, hf, .cons (HT.of he) .nil, k1, by decide, Nat.zero_le _, rfl⟩, ?_⟩
    rintro k σ H2 ⟨i, us, c4, c5, rfl, hf2, hr2, k2, i8, il, rfl⟩
    try simp (maxSteps := 1000000) only [tSeq, tIfS, tTest, tOp, tUn, tCB, tCons, tNil, tVar, tC, rI0, rI, rU, rEq, rNe, tRet, tRetN, tAsg, gName, gSub, tBM, tBM0, tNext, tB, tNot, tAnd, tOr, tIf, tCall, tDrop, tBreak, tCont, L2.start, tDGet, sDPut, tTup, tLst, tDNewK, tRevL, rCat, rAppend, rPop, rSetL, tAndV, tOrV, tNotV, tSl, tPart, tNoPart, tM1, gTup, gCons, gNil, cxK, cxnK, List.map_cons, List.map_nil, List.length_cons, List.length_nil, List.replicate, List.cons_append, List.nil_append, List.append_nil, List.set_cons_zero, List.set_cons_succ, List.getElem?_cons_zero, List.getElem?_cons_succ, Option.some.injEq, V.ref.injEq, V.int.injEq, V.str.injEq, V.bl.injEq, V.ty.injEq, exists_eq_left', exists_eq_left, exists_and_left, List.cons.injEq, and_true, true_and, sc_ii, sc_ss, sc_bb, sc_ni, sc_in, sc_is, sc_si, sc_nn, decide_true, decide_false, reduceCtorEq, Bool.false_eq_true, if_true, if_false, ite_true, ite_false, exists_const, eq_self, false_and, and_false, or_false, false_or, exists_false, Evl.rLenS, rSum, wipe, tYes, exists_eq, exists_eq', rIxL, rIxT, rIxS, exists_and_right, gt_iff_lt, not_true_eq_false, not_false_eq_true, Bool.not_true, Bool.not_false, decide_eq_true_eq, Nat.reduceSub, Nat.reduceAdd, List.append_assoc, tChain, tDIn, tDNotIn, sDDel, tAug, ipI, rInt1_int, rInt1_bl]
    refine ⟨_, .inl (sq_l hf2), ?_⟩
    obtain ⟨F1, F2, F3⟩ := factH n3 n1 (i := i) (by omega)
    rw [hr2.len]
    by_cases lt : i < (runH zs.length i).length
    · rw [if_pos (by omega)]
      have eh := List.getElem?_eq_getElem lt
      generalize (runH zs.length i)[i] = h at eh
      have hm := List.mem_of_getElem? eh
      obtain ⟨hb, h3⟩ := F2 h hm
      obtain ⟨v, ev, hv⟩ := hr2.at eh
      refine ⟨fun σ' H' => ∃ m', m' < 9 - i ∧ WHd K zs a fl H m' σ' H', fun _ _ h => h, ?_⟩
      refine ⟨_, sq_l hf2, _, atI_nat ev, ?_⟩
      have ha2 : LkAt K H2 a zs := LkAt.kp ha k2
      refine ⟨.inl ⟨rfl, _, sq_l hf2⟩, ?_⟩
      refine lcG (R := fun _ v x => v = V.str (nmL zs x)) (R2 := HT zs) (fun _ _ _ _ _ h => h) (fun _ _ _ _ t h => h.tp t) (fun r => decide (h = aheadR r h)) (fun r => h ++ [r]) (src_seq (fun R q' => ⟨_, rfl, q'⟩) ha2) lk_rw (by rw [List.length_range]; omega) (fun v x H3 N N0 hx hv k3 hN hN0 => ?_) fun D us' H3 nD hD hrw k3 => ?_
      · subst hv
        have xn := List.mem_range.mp hx
        have hv3 := hv.tp k3.tps
        refine ⟨by simp [wipe], ?_⟩
        try simp (maxSteps := 1000000) only [tSeq, tIfS, tTest, tOp, tUn, tCB, tCons, tNil, tVar, tC, rI0, rI, rU, rEq, rNe, tRet, tRetN, tAsg, gName, gSub, tBM, tBM0, tNext, tB, tNot, tAnd, tOr, tIf, tCall, tDrop, tBreak, tCont, L2.start, tDGet, sDPut, tTup, tLst, tDNewK, tRevL, rCat, rAppend, rPop, rSetL, tAndV, tOrV, tNotV, tSl, tPart, tNoPart, tM1, gTup, gCons, gNil, cxK, cxnK, List.map_cons, List.map_nil, List.length_cons, List.length_nil, List.replicate, List.cons_append, List.nil_append, List.append_nil, List.set_cons_zero, List.set_cons_succ, List.getElem?_cons_zero, List.getElem?_cons_succ, Option.some.injEq, V.ref.injEq, V.int.injEq, V.str.injEq, V.bl.injEq, V.ty.injEq, exists_eq_left', exists_eq_left, exists_and_left, List.cons.injEq, and_true, true_and, sc_ii, sc_ss, sc_bb, sc_ni, sc_in, sc_is, sc_si, sc_nn, decide_true, decide_false, reduceCtorEq, Bool.false_eq_true, if_true, if_false, ite_true, ite_false, exists_const, eq_self, false_and, and_false, or_false, false_or, exists_false, Evl.rLenS, rSum, wipe, tYes, exists_eq, exists_eq', rIxL, rIxT, rIxS, exists_and_right, gt_iff_lt, not_true_eq_false, not_false_eq_true, Bool.not_true, Bool.not_false, decide_eq_true_eq, Nat.reduceSub, Nat.reduceAdd, List.append_assoc, tChain, tDIn, tDNotIn, sDDel, tAug, ipI, rInt1_int, rInt1_bl]
        refine ⟨_, _, zs, x, h, rfl, L, xn, hv3, hb, by omega, LkAt.kp ha2 k3, fun u H4 hu4 k4 => ?_⟩
        refine eq_hd (b := aheadR x h) L hb (fun y hy => hb y (List.mem_filter.mp hy).1) (hv3.tp k4.tps) hu4 ⟨_, rfl, ?_⟩
        by_cases e : h = aheadR x h
        · rw [decide_eq_true e, if_pos rfl]
          obtain ⟨va, rfl, hva⟩ := hv3.tp k4.tps
          refine ⟨by rw [sizeLine_eq]; decide, fun t nt => ?_⟩
          have kt := (Kp.new nt : Kp [] H4 (upd H4 t (.tup [.str (nmL zs x)])))
          refine catA_use (kt _ _ not0 hva) upd_same (by simp [nmH]; omega) fun r' H' hr' k' => ?_
          exact hN (decide_eq_true e) _ _ ⟨r', rfl, by rw [hr']; simp [nmH]⟩ ((k4.trans kt).trans k')
        · rw [decide_eq_false e, if_neg (by decide)]
          exact hN0 (decide_eq_false e) _ k4
      · have hf3 := k3 _ _ not0 hf2
        have hr3 := hr2.mono fun _ _ z => z.tp k3.tps
        have es : runH zs.length (i + 1) = runH zs.length i ++ ((List.range zs.length).filter fun r => decide (h = aheadR r h)).map fun r => h ++ [r] := by
          show stepH zs.length (runH zs.length i) i = _
          unfold stepH
          rw [eh]
        have F1' := (factH n3 n1 (i := i + 1) (by omega)).1
        have l2 : us.length + us'.length ≤ 8 := by
          rw [hr3.len, hrw.len, ← List.length_append, ← es]
          exact F1'
        have tp : Tp H3 (upd H3 fl (.lst (us ++ us'))) := (Tp.refl _).putL hf3
        refine ⟨fl, D, us, us', rfl, rfl, hf3, hD, small (by omega), 9 - (i + 1), by omega, i + 1, _, _, _, rfl, upd_same, ?_, (k2.trans k3).wr nfl0, by omega, ?_, rfl⟩
        · rw [es]
          exact (hr3.mono fun _ _ z => z.tp tp).app (hrw.mono fun _ _ z => z.tp tp)
        · rw [es, List.length_append]
          omega
    · rw [if_neg (by omega)]
      have e : runH zs.length i = hls zs.length := F3.resolve_left lt
      exact q fl us H2 nfl0 hf2 (e ▸ hr2) k2
/-- the two-clause comprehension, as told -/
def spEnts (K : PySem.W.Frag) : Sp := fun vs H Q _ => ∃ (a : Addr) (zs : List Str), vs = [.ref a] ∧ LkOk zs ∧ LkAt K H a zs ∧ ∀ l us H', H l = none → H' l = some (.lst us) → Rw (ET zs H') us (ens zs.length) → Kp [] H H' → Q (.ref l) H'
theorem ok_all_entries {f : Addr} {fd : FuncData} (D : Df K mg "all_entries" s_all_entries ["locks"] f fd) {f1 : Addr} {fd1 : FuncData} (D_all_held : Df K mg "all_held" s_all_held ["locks"] f1 fd1) (G_all_held : FnOk P w K mg base CX0 2 f1 fd1 ["locks"] (spHeld K)) : FnOk P w K mg base CX0 3 f fd ["locks"] (spEnts K) := by
  refine D.F.ok sc_all_entries (fun vs H Q E h => ?_) (fun cdv A outer s H vs Q E hr h => ?_)
  · obtain ⟨_, _, rfl, _⟩ := h
    rfl
  · obtain ⟨a, zs, rfl, L, ha, q⟩ := h
    have hu := hu_of hr
    refine ⟨_, (pss_one (ps_ret (pe_lc2 (own := [("held", 1), ("name", 2)]) (g1 := (gName 1)) (g2 := (gName 2)) (vs2 := [2]) (tt1 := tYes) rfl sc_all_entries.nd (pi_list (pe_call G_all_held (hr.mono (by decide)) rfl D_all_held.g D_all_held.F.kp D_all_held.b .nil pass0 (pa_cons (pv 0) pa_nil))) (blkOk_by (N := ["locks", "held", "name"]) (sc := defScope s_all_entries) (by decide +kernel)) (by decide) (fun _ _ _ _ _ => (pg_name (i := 1) sc_all_entries.nd rfl (Or.inl rfl))) (fun _ _ _ _ _ => pts_nil) (fun _ _ _ _ _ => ((pi_seq (pv 0)) : PI _ _ _ (iSeq K _))) (fun _ _ _ _ _ => (pg_name (i := 2) sc_all_entries.nd rfl (Or.inl rfl))) (fun _ _ _ _ _ => (pts_one (pt_cmpR (r := rIn K true) op_notIn_seq (pv 2) (pv 1) (by rfl)))) (fun _ _ _ _ _ => (pe_tup (pa_cons (pv 1) (pa_cons (pv 2) pa_nil))))))), ?_⟩
    try simp (maxSteps := 1000000) only [tSeq, tIfS, tTest, tOp, tUn, tCB, tCons, tNil, tVar, tC, rI0, rI, rU, rEq, rNe, tRet, tRetN, tAsg, gName, gSub, tBM, tBM0, tNext, tB, tNot, tAnd, tOr, tIf, tCall, tDrop, tBreak, tCont, L2.start, tDGet, sDPut, tTup, tLst, tDNewK, tRevL, rCat, rAppend, rPop, rSetL, tAndV, tOrV, tNotV, tSl, tPart, tNoPart, tM1, gTup, gCons, gNil, cxK, cxnK, List.map_cons, List.map_nil, List.length_cons, List.length_nil, List.replicate, List.cons_append, List.nil_append, List.append_nil, List.set_cons_zero, List.set_cons_succ, List.getElem?_cons_zero, List.getElem?_cons_succ, Option.some.injEq, V.ref.injEq, V.int.injEq, V.str.injEq, V.bl.injEq, V.ty.injEq, exists_eq_left', exists_eq_left, exists_and_left, List.cons.injEq, and_true, true_and, sc_ii, sc_ss, sc_bb, sc_ni, sc_in, sc_is, sc_si, sc_nn, decide_true, decide_false, reduceCtorEq, Bool.false_eq_true, if_true, if_false, ite_true, ite_false, exists_const, eq_self, false_and, and_false, or_false, false_or, exists_false, Evl.rLenS, rSum, wipe, tYes, exists_eq, exists_eq', rIxL, rIxT, rIxS, exists_and_right, gt_iff_lt, not_true_eq_false, not_false_eq_true, Bool.not_true, Bool.not_false, decide_eq_true_eq, Nat.reduceSub, Nat.reduceAdd, List.append_assoc, tChain, tDIn, tDNotIn, sDDel, tAug, ipI, rInt1_int, rInt1_bl]
    have E := factE (n := zs.length) (by have := L.le; omega) L.pos
    refine lc2_src ?_
    try simp (maxSteps := 1000000) only [tSeq, tIfS, tTest, tOp, tUn, tCB, tCons, tNil, tVar, tC, rI0, rI, rU, rEq, rNe, tRet, tRetN, tAsg, gName, gSub, tBM, tBM0, tNext, tB, tNot, tAnd, tOr, tIf, tCall, tDrop, tBreak, tCont, L2.start, tDGet, sDPut, tTup, tLst, tDNewK, tRevL, rCat, rAppend, rPop, rSetL, tAndV, tOrV, tNotV, tSl, tPart, tNoPart, tM1, gTup, gCons, gNil, cxK, cxnK, List.map_cons, List.map_nil, List.length_cons, List.length_nil, List.replicate, List.cons_append, List.nil_append, List.append_nil, List.set_cons_zero, List.set_cons_succ, List.getElem?_cons_zero, List.getElem?_cons_succ, Option.some.injEq, V.ref.injEq, V.int.injEq, V.str.injEq, V.bl.injEq, V.ty.injEq, exists_eq_left', exists_eq_left, exists_and_left, List.cons.injEq, and_true, true_and, sc_ii, sc_ss, sc_bb, sc_ni, sc_in, sc_is, sc_si, sc_nn, decide_true, decide_false, reduceCtorEq, Bool.false_eq_true, if_true, if_false, ite_true, ite_false, exists_const, eq_self, false_and, and_false, or_false, false_or, exists_false, Evl.rLenS, rSum, wipe, tYes, exists_eq, exists_eq', rIxL, rIxT, rIxS, exists_and_right, gt_iff_lt, not_true_eq_false, not_false_eq_true, Bool.not_true, Bool.not_false, decide_eq_true_eq, Nat.reduceSub, Nat.reduceAdd, List.append_assoc, tChain, tDIn, tDNotIn, sDDel, tAug, ipI, rInt1_int, rInt1_bl]
    refine ⟨a, zs, rfl, L, ha, fun l us H1 nl hl hus k1 => ?_⟩
    dsimp only
    refine lc2G (R := HT zs) (S := fun _ v x => v = V.str (nmL zs x)) (R2 := ET zs) (fun _ _ _ _ t h => h.tp t) (fun _ _ _ _ _ h => h) (fun _ _ _ _ t h => h.tp t) (fun _ => List.range zs.length) (fun h r => !decide (r ∈ h)) (fun h r => (h, r)) (src_list (fun R q' => q') (sq_l hl)) hus ?_ (fun v h H2 M hm hv k2 hM => ?_) fun D us' H2 nD hD hr' k2 => ?_
    · have : ∀ n, n < 4 → ((hls n).flatMap fun _ => List.range n).length ≤ 1000 := by decide +kernel
      exact this _ (by have := L.le; omega)
    · obtain ⟨hb, h3, _⟩ := E.hld h hm
      refine hM _ _ (by simp [wipe]) (Kp.refl _ _) ⟨a, _, src2_seq k2 (fun R q' => ⟨_, rfl, q'⟩) (LkAt.kp ha k1), lk_rw⟩ fun u r H3 N N0 hr hu k3 t3 hN hN0 => ?_
      subst hu
      have rn := List.mem_range.mp hr
      refine ⟨by simp [wipe], ?_⟩
      obtain ⟨va, rfl, hva⟩ := hv.tp t3
      try simp (maxSteps := 1000000) only [tSeq, tIfS, tTest, tOp, tUn, tCB, tCons, tNil, tVar, tC, rI0, rI, rU, rEq, rNe, tRet, tRetN, tAsg, gName, gSub, tBM, tBM0, tNext, tB, tNot, tAnd, tOr, tIf, tCall, tDrop, tBreak, tCont, L2.start, tDGet, sDPut, tTup, tLst, tDNewK, tRevL, rCat, rAppend, rPop, rSetL, tAndV, tOrV, tNotV, tSl, tPart, tNoPart, tM1, gTup, gCons, gNil, cxK, cxnK, List.map_cons, List.map_nil, List.length_cons, List.length_nil, List.replicate, List.cons_append, List.nil_append, List.append_nil, List.set_cons_zero, List.set_cons_succ, List.getElem?_cons_zero, List.getElem?_cons_succ, Option.some.injEq, V.ref.injEq, V.int.injEq, V.str.injEq, V.bl.injEq, V.ty.injEq, exists_eq_left', exists_eq_left, exists_and_left, List.cons.injEq, and_true, true_and, sc_ii, sc_ss, sc_bb, sc_ni, sc_in, sc_is, sc_si, sc_nn, decide_true, decide_false, reduceCtorEq, Bool.false_eq_true, if_true, if_false, ite_true, ite_false, exists_const, eq_self, false_and, and_false, or_false, false_or, exists_false, Evl.rLenS, rSum, wipe, tYes, exists_eq, exists_eq', rIxL, rIxT, rIxS, exists_and_right, gt_iff_lt, not_true_eq_false, not_false_eq_true, Bool.not_true, Bool.not_false, decide_eq_true_eq, Nat.reduceSub, Nat.reduceAdd, List.append_assoc, tChain, tDIn, tDNotIn, sDDel, tAug, ipI, rInt1_int, rInt1_bl]
      refine nin_nm L rn hb (sq_t hva) ⟨_, rfl, ?_⟩
      by_cases e : r ∈ h
      · rw [decide_eq_true e, if_neg (by decide)]
        exact hN0 (by simp [e]) _ (Kp.refl _ _)
      · rw [decide_eq_false e, if_pos (by decide)]
        try simp (maxSteps := 1000000) only [tSeq, tIfS, tTest, tOp, tUn, tCB, tCons, tNil, tVar, tC, rI0, rI, rU, rEq, rNe, tRet, tRetN, tAsg, gName, gSub, tBM, tBM0, tNext, tB, tNot, tAnd, tOr, tIf, tCall, tDrop, tBreak, tCont, L2.start, tDGet, sDPut, tTup, tLst, tDNewK, tRevL, rCat, rAppend, rPop, rSetL, tAndV, tOrV, tNotV, tSl, tPart, tNoPart, tM1, gTup, gCons, gNil, cxK, cxnK, List.map_cons, List.map_nil, List.length_cons, List.length_nil, List.replicate, List.cons_append, List.nil_append, List.append_nil, List.set_cons_zero, List.set_cons_succ, List.getElem?_cons_zero, List.getElem?_cons_succ, Option.some.injEq, V.ref.injEq, V.int.injEq, V.str.injEq, V.bl.injEq, V.ty.injEq, exists_eq_left', exists_eq_left, exists_and_left, List.cons.injEq, and_true, true_and, sc_ii, sc_ss, sc_bb, sc_ni, sc_in, sc_is, sc_si, sc_nn, decide_true, decide_false, reduceCtorEq, Bool.false_eq_true, if_true, if_false, ite_true, ite_false, exists_const, eq_self, false_and, and_false, or_false, false_or, exists_false, Evl.rLenS, rSum, wipe, tYes, exists_eq, exists_eq', rIxL, rIxT, rIxS, exists_and_right, gt_iff_lt, not_true_eq_false, not_false_eq_true, Bool.not_true, Bool.not_false, decide_eq_true_eq, Nat.reduceSub, Nat.reduceAdd, List.append_assoc, tChain, tDIn, tDNotIn, sDDel, tAug, ipI, rInt1_int, rInt1_bl]
        refine ⟨by rw [sizeLine_eq]; decide, fun t nt => ?_⟩
        have kt := (Kp.new nt : Kp [] H3 (upd H3 t (.tup [.ref va, .str (nmL zs r)])))
        exact hN (by simp [e]) _ _ ⟨t, _, rfl, upd_same, ⟨va, rfl, kt _ _ not0 hva⟩⟩ kt
    · exact q D us' H2 (k1.free0 nD) hD hr' (k1.trans k2)
end
end My

set_option Elab.async false
set_option linter.all false
set_option maxRecDepth 100000
set_option maxHeartbeats 4000000
namespace My
open PySem L2 NdefX
abbrev s_Rule_init : Stmt := mtop 12 0
theorem sc_Rule_init : FnScope ["self", "locks", "entries", "at", "name", "possible", "entry"] ["self", "locks", "entries"] (defScope s_Rule_init) := ⟨rfl, rfl, rfl, by decide +kernel, rfl, by decide +kernel, by decide +kernel⟩
abbrev s_Rule_locks : Stmt := mtop 12 1
theorem sc_Rule_locks : FnScope ["self"] ["self"] (defScope s_Rule_locks) := ⟨rfl, rfl, rfl, by decide +kernel, rfl, by decide +kernel, by decide +kernel⟩
abbrev s_Rule_len : Stmt := mtop 12 3
theorem sc_Rule_len : FnScope ["self"] ["self"] (defScope s_Rule_len) := ⟨rfl, rfl, rfl, by decide +kernel, rfl, by decide +kernel, by decide +kernel⟩
abbrev s_Rule_iter : Stmt := mtop 12 4
theorem sc_Rule_iter : FnScope ["self"] ["self"] (defScope s_Rule_iter) := ⟨rfl, rfl, rfl, by decide +kernel, rfl, by decide +kernel, by decide +kernel⟩
abbrev s_Rule_getitem : Stmt := mtop 12 5
theorem sc_Rule_getitem : FnScope ["self", "at", "held", "goal"] ["self", "at"] (defScope s_Rule_getitem) := ⟨rfl, rfl, rfl, by decide +kernel, rfl, by decide +kernel, by decide +kernel⟩
structure RuC (K : PySem.W.Frag) (mg : Str → Option Value) (RC : Addr) : Prop where
  k : mg "Rule" = some (.ref RC)
  cl : Cls K RC
  n1 : NoAttr K RC "_locks"
  n2 : NoAttr K RC "_entries"
/-- at o a rule of these locks with these entries -/
def RuAt (RC : Addr) (H : Hp) (o : Addr) (zs : List Str) (es : List En) : Prop := ∃ (dx l m : Addr) (us : List V), H o = some (.ins RC dx [("_locks", .ref l), ("_entries", .ref m)]) ∧ H l = some (.lst (zs.map V.str)) ∧ H m = some (.lst us) ∧ Rw (ET zs H) us es ∧ LkOk zs ∧ es.Sublist (ens zs.length)
theorem RuAt.kp {RC : Addr} {H H' : Hp} {o : Addr} {zs : List Str} {es : List En} (h : RuAt RC H o zs es) (k : Kp [] H H') : RuAt RC H' o zs es := by
  obtain ⟨dx, l, m, us, h1, h2, h3, h4, h5, h6⟩ := h
  exact ⟨dx, l, m, us, k _ _ not0 h1, k _ _ not0 h2, k _ _ not0 h3, h4.mono fun _ _ z => z.tp k.tps, h5, h6⟩
theorem sub_filter {es gs : List En} (h : gs.Sublist es) (nd : es.Nodup) : es.filter (fun e => decide (e ∈ gs)) = gs := by
  induction h with
  | slnil => rfl
  | @cons a b c h ih =>
    rw [List.nodup_cons] at nd
    have : c ∉ a := fun z => nd.1 (h.subset z)
    rw [List.filter_cons, if_neg (by simpa using this)]
    exact ih nd.2
  | @cons_cons a b c h ih =>
    rw [List.nodup_cons] at nd
    have e : ∀ x ∈ b, (decide (x ∈ c :: a)) = decide (x ∈ a) := fun x hx => by
      have : x ≠ c := fun z => nd.1 (z ▸ hx)
      simp [this]
    rw [List.filter_cons, if_pos (by simp), List.filter_congr e, ih nd.2]
section
variable {P : Program} {w : World} {K : PySem.W.Frag} {mg : Str → Option Value} {base : Heap} {tL t3 : Tok} {RC : Addr}
def spRuL (RC : Addr) : Sp := fun vs H Q _ => ∃ (o : Addr) (zs : List Str) (es : List En), vs = [.ref o] ∧ RuAt RC H o zs es ∧ ∀ l H', H l = none → H' l = some (.lst (zs.map V.str)) → Kp [] H H' → Q (.ref l) H'
theorem ok_Rule_locks {f : Addr} {fd : FuncData} (F : Fun K "locks" "Rule.locks" s_Rule_locks f fd) (T : Bt mg tL t3) (C : RuC K mg RC) : FnOk P w K mg base CX0 1 f fd ["self"] (spRuL RC) := by
  refine F.ok sc_Rule_locks (fun vs H Q E h => ?_) (fun cdv A outer s H vs Q E hr h => ?_)
  · obtain ⟨_, _, _, rfl, _⟩ := h
    rfl
  · obtain ⟨o, zs, es, rfl, ⟨dx, l, m, us, ho, hl, hm, hr', L, hs⟩, q⟩ := h
    refine ⟨_, (pss_one (ps_ret (pe_callTy call_list_of (by rfl) T.b_list (by decide +kernel) (pa_cons (pe_fld (pv 0) rfl) pa_nil)))), ?_⟩
    try simp (maxSteps := 1000000) only [tSeq, tIfS, tTest, tOp, tUn, tCB, tCons, tNil, tVar, tC, rI0, rI, rU, rEq, rNe, tRet, tRetN, tAsg, gName, gSub, tBM, tBM0, tNext, tB, tNot, tAnd, tOr, tIf, tCall, tDrop, tBreak, tCont, L2.start, tDGet, sDPut, tTup, tLst, tDNewK, tRevL, rCat, rAppend, rPop, rSetL, tAndV, tOrV, tNotV, tSl, tPart, tNoPart, tM1, gTup, gCons, gNil, cxK, cxnK, List.map_cons, List.map_nil, List.length_cons, List.length_nil, List.replicate, List.cons_append, List.nil_append, List.append_nil, List.set_cons_zero, List.set_cons_succ, List.getElem?_cons_zero, List.getElem?_cons_succ, Option.some.injEq, V.ref.injEq, V.int.injEq, V.str.injEq, V.bl.injEq, V.ty.injEq, exists_eq_left', exists_eq_left, exists_and_left, List.cons.injEq, and_true, true_and, sc_ii, sc_ss, sc_bb, sc_ni, sc_in, sc_is, sc_si, sc_nn, decide_true, decide_false, reduceCtorEq, Bool.false_eq_true, if_true, if_false, ite_true, ite_false, exists_const, eq_self, false_and, and_false, or_false, false_or, exists_false, Evl.rLenS, rSum, wipe, tYes, exists_eq, exists_eq', rIxL, rIxT, rIxS, exists_and_right, gt_iff_lt, not_true_eq_false, not_false_eq_true, Bool.not_true, Bool.not_false, decide_eq_true_eq, Nat.reduceSub, Nat.reduceAdd, List.append_assoc, tChain, tDIn, tDNotIn, sDDel, tAug, ipI, rInt1_int, rInt1_bl, tFld]
    refine ⟨RC, dx, _, ho, C.cl, C.n1, .ref l, rfl, l, rfl, _, .inl (sq_l hl), fun p np => ?_⟩
    exact q p _ np upd_same (Kp.new np)
def spRuN (RC : Addr) : Sp := fun vs H Q _ => ∃ (o : Addr) (zs : List Str) (es : List En), vs = [.ref o] ∧ RuAt RC H o zs es ∧ Q (.int (es.length : Nat)) H
theorem ok_Rule_len {f : Addr} {fd : FuncData} (F : Fun K "__len__" "Rule.__len__" s_Rule_len f fd) (T : Bt mg tL t3) (C : RuC K mg RC) : FnOk P w K mg base CX0 1 f fd ["self"] (spRuN RC) := by
  refine F.ok sc_Rule_len (fun vs H Q E h => ?_) (fun cdv A outer s H vs Q E hr h => ?_)
  · obtain ⟨_, _, _, rfl, _⟩ := h
    rfl
  · obtain ⟨o, zs, es, rfl, ⟨dx, l, m, us, ho, hl, hm, hr', L, hs⟩, q⟩ := h
    refine ⟨_, (pss_one (ps_ret (pe_callB (id := "len") (r := Evl.rLenS K) call_len_seq (by rfl) T.b_len PySem.boot_len (pa_cons (pe_fld (pv 0) rfl) pa_nil)))), ?_⟩
    try simp (maxSteps := 1000000) only [tSeq, tIfS, tTest, tOp, tUn, tCB, tCons, tNil, tVar, tC, rI0, rI, rU, rEq, rNe, tRet, tRetN, tAsg, gName, gSub, tBM, tBM0, tNext, tB, tNot, tAnd, tOr, tIf, tCall, tDrop, tBreak, tCont, L2.start, tDGet, sDPut, tTup, tLst, tDNewK, tRevL, rCat, rAppend, rPop, rSetL, tAndV, tOrV, tNotV, tSl, tPart, tNoPart, tM1, gTup, gCons, gNil, cxK, cxnK, List.map_cons, List.map_nil, List.length_cons, List.length_nil, List.replicate, List.cons_append, List.nil_append, List.append_nil, List.set_cons_zero, List.set_cons_succ, List.getElem?_cons_zero, List.getElem?_cons_succ, Option.some.injEq, V.ref.injEq, V.int.injEq, V.str.injEq, V.bl.injEq, V.ty.injEq, exists_eq_left', exists_eq_left, exists_and_left, List.cons.injEq, and_true, true_and, sc_ii, sc_ss, sc_bb, sc_ni, sc_in, sc_is, sc_si, sc_nn, decide_true, decide_false, reduceCtorEq, Bool.false_eq_true, if_true, if_false, ite_true, ite_false, exists_const, eq_self, false_and, and_false, or_false, false_or, exists_false, Evl.rLenS, rSum, wipe, tYes, exists_eq, exists_eq', rIxL, rIxT, rIxS, exists_and_right, gt_iff_lt, not_true_eq_false, not_false_eq_true, Bool.not_true, Bool.not_false, decide_eq_true_eq, Nat.reduceSub, Nat.reduceAdd, List.append_assoc, tChain, tDIn, tDNotIn, sDDel, tAug, ipI, rInt1_int, rInt1_bl, tFld]
    refine ⟨RC, dx, _, ho, C.cl, C.n2, .ref m, rfl, m, rfl, us, .inl (sq_l hm), ?_⟩
    rw [hr'.len]
    exact q
def spRuT (RC : Addr) : Sp := fun vs H Q _ => ∃ (o dx l m : Addr) (us : List V), vs = [.ref o] ∧ H o = some (.ins RC dx [("_locks", .ref l), ("_entries", .ref m)]) ∧ H m = some (.lst us) ∧ ∀ it, H it = none → Q (.ref it) (upd H it (ItO m it 0))
theorem ok_Rule_iter {f : Addr} {fd : FuncData} (F : Fun K "__iter__" "Rule.__iter__" s_Rule_iter f fd) (T : Bt mg tL t3) (C : RuC K mg RC) : FnOk P w K mg base CX0 1 f fd ["self"] (spRuT RC) := by
  refine F.ok sc_Rule_iter (fun vs H Q E h => ?_) (fun cdv A outer s H vs Q E hr h => ?_)
  · obtain ⟨_, _, _, _, _, rfl, _⟩ := h
    rfl
  · obtain ⟨o, dx, l, m, us, rfl, ho, hm, q⟩ := h
    refine ⟨_, (pss_one (ps_ret (pe_callB (id := "iter") (r := rIter K) call_iterL (by rfl) T.b_iter (by decide +kernel) (pa_cons (pe_fld (pv 0) rfl) pa_nil)))), ?_⟩
    try simp (maxSteps := 1000000) only [tSeq, tIfS, tTest, tOp, tUn, tCB, tCons, tNil, tVar, tC, rI0, rI, rU, rEq, rNe, tRet, tRetN, tAsg, gName, gSub, tBM, tBM0, tNext, tB, tNot, tAnd, tOr, tIf, tCall, tDrop, tBreak, tCont, L2.start, tDGet, sDPut, tTup, tLst, tDNewK, tRevL, rCat, rAppend, rPop, rSetL, tAndV, tOrV, tNotV, tSl, tPart, tNoPart, tM1, gTup, gCons, gNil, cxK, cxnK, List.map_cons, List.map_nil, List.length_cons, List.length_nil, List.replicate, List.cons_append, List.nil_append, List.append_nil, List.set_cons_zero, List.set_cons_succ, List.getElem?_cons_zero, List.getElem?_cons_succ, Option.some.injEq, V.ref.injEq, V.int.injEq, V.str.injEq, V.bl.injEq, V.ty.injEq, exists_eq_left', exists_eq_left, exists_and_left, List.cons.injEq, and_true, true_and, sc_ii, sc_ss, sc_bb, sc_ni, sc_in, sc_is, sc_si, sc_nn, decide_true, decide_false, reduceCtorEq, Bool.false_eq_true, if_true, if_false, ite_true, ite_false, exists_const, eq_self, false_and, and_false, or_false, false_or, exists_false, Evl.rLenS, rSum, wipe, tYes, exists_eq, exists_eq', rIxL, rIxT, rIxS, exists_and_right, gt_iff_lt, not_true_eq_false, not_false_eq_true, Bool.not_true, Bool.not_false, decide_eq_true_eq, Nat.reduceSub, Nat.reduceAdd, List.append_assoc, tChain, tDIn, tDNotIn, sDDel, tAug, ipI, rInt1_int, rInt1_bl, tFld]
    exact ⟨RC, dx, _, ho, C.cl, C.n2, .ref m, rfl, m, us, rfl, sq_l hm, fun it nit => q it nit⟩
open PySem.Spec PyProof.Rows in
theorem okD0 {x qual : Str} {params : Arguments} {body : List Stmt} {scope : Scope} {dvs : List V} {kws : List (Str × V)} {f : Addr} {fd : FuncData} {N ps : List Str} {k : Nat} {sp : Sp} (F : FunD K x qual params body scope dvs kws f fd) (S : FnScope N ps scope) (len : ∀ vs H Q E, sp vs H Q E → vs.length = ps.length)
    (hbody : ∀ (cdv : Value) (A : Around) (outer : List Env) (s : Shared) (H : Hp) (vs : List V) (Q : VK) (E : XK), Room k (A.deeper (envOfC qual scope s.heap.objs.size f cdv)) → sp vs H Q E →
      ∃ t, PSs (cxOf CX0 P w K mg base N qual scope f cdv A outer s H E).nox body t ∧ t { nx := fun _ H' => Q .non H', rt := Q } (start N vs) H) : FnOk P w K mg base CX0 (k + 1) f fd ps sp :=
  F.ok S len fun cdv A outer s H vs Q E hr hsp => by
    obtain ⟨t, h, q⟩ := hbody cdv A outer s H vs Q E hr hsp
    exact ⟨t, h.nox, q⟩
/-- the locks that may be taken -/
def mayR (es : List En) (h : Hd) : List Nat := (es.filter fun e => decide (e.1 = h)).map (·.2)
def spRuG (RC : Addr) : Sp := fun vs H Q _ => ∃ (o : Addr) (u : V) (zs : List Str) (es : List En) (h : Hd), vs = [.ref o, u] ∧ RuAt RC H o zs es ∧ HT zs H u h ∧ h ∈ hls zs.length ∧ ∀ l H', H l = none → H' l = some (.lst ((nmH zs (mayR es h)).map V.str)) → Kp [] H H' → Q (.ref l) H'
theorem ok_Rule_getitem {f : Addr} {fd : FuncData} (F : Fun K "__getitem__" "Rule.__getitem__" s_Rule_getitem f fd) (T : Bt mg tL t3) (C : RuC K mg RC) {f1 : Addr} {fd1 : FuncData} (D_all_held : Df K mg "all_held" s_all_held ["locks"] f1 fd1) (G_all_held : FnOk P w K mg base CX0 2 f1 fd1 ["locks"] (spHeld K)) : FnOk P w K mg base CX0 3 f fd ["self", "at"] (spRuG RC) := by
  refine F.ok sc_Rule_getitem (fun vs H Q E h => ?_) (fun cdv A outer s H vs Q E hr h => ?_)
  · obtain ⟨_, _, _, _, _, rfl, _⟩ := h
    rfl
  · obtain ⟨o, u, zs, es, h, rfl, ⟨dx, l, m, us, ho, hl, hm, hr', L, hs⟩, hu', hh, q⟩ := h
    have hu := hu_of hr
    have E := factE (n := zs.length) (by have := L.le; omega) L.pos
    refine ⟨_, (pss_cons (ps_if (pt_cmpR (op_notInD (hu5 hr)) (pv 1) (pe_call G_all_held (hr.mono (by decide)) rfl D_all_held.g D_all_held.F.kp D_all_held.b .nil pass0 (pa_cons (pe_fld (pv 0) rfl) pa_nil)) (by rfl)) (pss_one ps_never) pss_nil)
      (pss_one (ps_ret (pe_lc (own := [("held", 2), ("goal", 3)]) (g := (gTup K 2 (gCons (gName 2) (gCons (gName 3) gNil)))) rfl sc_Rule_getitem.nd (pi_list (pe_fld (pv 0) rfl)) (blkOk_by (N := ["self", "at", "held", "goal"]) (sc := defScope s_Rule_getitem) (by decide +kernel)) (fun _ _ _ _ _ => (pg_tup (n := 2) (by rfl) (pgs_cons (pg_name (i := 2) sc_Rule_getitem.nd rfl (Or.inl rfl)) (pgs_cons (pg_name (i := 3) sc_Rule_getitem.nd rfl (Or.inl rfl)) pgs_nil)))) (fun _ _ _ _ _ => (pts_one (pt_cmpR (r := rEqD K) (op_eqD hr.units) (pv 2) (pv 1) (nomark _)))) (fun _ _ _ _ _ => (pv 3)))))), ?_⟩
    try simp (maxSteps := 1000000) only [tSeq, tIfS, tTest, tOp, tUn, tCB, tCons, tNil, tVar, tC, rI0, rI, rU, rEq, rNe, tRet, tRetN, tAsg, gName, gSub, tBM, tBM0, tNext, tB, tNot, tAnd, tOr, tIf, tCall, tDrop, tBreak, tCont, L2.start, tDGet, sDPut, tTup, tLst, tDNewK, tRevL, rCat, rAppend, rPop, rSetL, tAndV, tOrV, tNotV, tSl, tPart, tNoPart, tM1, gTup, gCons, gNil, cxK, cxnK, List.map_cons, List.map_nil, List.length_cons, List.length_nil, List.replicate, List.cons_append, List.nil_append, List.append_nil, List.set_cons_zero, List.set_cons_succ, List.getElem?_cons_zero, List.getElem?_cons_succ, Option.some.injEq, V.ref.injEq, V.int.injEq, V.str.injEq, V.bl.injEq, V.ty.injEq, exists_eq_left', exists_eq_left, exists_and_left, List.cons.injEq, and_true, true_and, sc_ii, sc_ss, sc_bb, sc_ni, sc_in, sc_is, sc_si, sc_nn, decide_true, decide_false, reduceCtorEq, Bool.false_eq_true, if_true, if_false, ite_true, ite_false, exists_const, eq_self, false_and, and_false, or_false, false_or, exists_false, Evl.rLenS, rSum, wipe, tYes, exists_eq, exists_eq', rIxL, rIxT, rIxS, exists_and_right, gt_iff_lt, not_true_eq_false, not_false_eq_true, Bool.not_true, Bool.not_false, decide_eq_true_eq, Nat.reduceSub, Nat.reduceAdd, List.append_assoc, tChain, tDIn, tDNotIn, sDDel, tAug, ipI, rInt1_int, rInt1_bl, tFld]
    refine ⟨RC, dx, _, ho, C.cl, C.n1, .ref l, rfl, ?_⟩
    refine ⟨l, zs, rfl, L, .inl (sq_l hl), fun a1 us1 H1 na1 ha1 hus1 k1 => ?_⟩
    obtain ⟨hb, h3, _⟩ := E.hld h hh
    have hu1 := hu'.tp k1.tps
    refine nin_hds L hb (fun g hg => (E.hld g hg).1) hu1 (sq_l ha1) hus1 ⟨_, rfl, ?_⟩
    rw [decide_eq_true hh, if_neg (by decide)]
    have hm1 := k1 _ _ not0 hm
    have ho1 := k1 _ _ not0 ho
    have hbe : ∀ e ∈ es, belowE zs.length e := fun e he => (E.ent e (hs.subset he)).1
    have l12 : es.length ≤ 12 := Nat.le_trans hs.length_le E.len
    refine lcG (R := ET zs) (R2 := fun _ v x => v = V.str (nmL zs x)) (fun _ _ _ _ t h => h.tp t) (fun _ _ _ _ _ h => h) (fun e => decide (e.1 = h)) (fun e => e.2) (src_list (fun R q' => ⟨.ref o, rfl, o, RC, dx, _, _, rfl, ho1, C.cl, C.n2, rfl, q'⟩) (sq_l hm1)) (hr'.mono fun _ _ z => z.tp k1.tps) (by omega) (fun v e H3 N N0 he hv k3 hN hN0 => ?_) fun D us' H3 nD hD hrw k3 => ?_
    · obtain ⟨va, hu3, rfl, hva, hue⟩ := hv
      obtain ⟨be1, be2⟩ := hbe e he
      try simp (maxSteps := 1000000) only [tSeq, tIfS, tTest, tOp, tUn, tCB, tCons, tNil, tVar, tC, rI0, rI, rU, rEq, rNe, tRet, tRetN, tAsg, gName, gSub, tBM, tBM0, tNext, tB, tNot, tAnd, tOr, tIf, tCall, tDrop, tBreak, tCont, L2.start, tDGet, sDPut, tTup, tLst, tDNewK, tRevL, rCat, rAppend, rPop, rSetL, tAndV, tOrV, tNotV, tSl, tPart, tNoPart, tM1, gTup, gCons, gNil, cxK, cxnK, List.map_cons, List.map_nil, List.length_cons, List.length_nil, List.replicate, List.cons_append, List.nil_append, List.append_nil, List.set_cons_zero, List.set_cons_succ, List.getElem?_cons_zero, List.getElem?_cons_succ, Option.some.injEq, V.ref.injEq, V.int.injEq, V.str.injEq, V.bl.injEq, V.ty.injEq, exists_eq_left', exists_eq_left, exists_and_left, List.cons.injEq, and_true, true_and, sc_ii, sc_ss, sc_bb, sc_ni, sc_in, sc_is, sc_si, sc_nn, decide_true, decide_false, reduceCtorEq, Bool.false_eq_true, if_true, if_false, ite_true, ite_false, exists_const, eq_self, false_and, and_false, or_false, false_or, exists_false, Evl.rLenS, rSum, wipe, tYes, exists_eq, exists_eq', rIxL, rIxT, rIxS, exists_and_right, gt_iff_lt, not_true_eq_false, not_false_eq_true, Bool.not_true, Bool.not_false, decide_eq_true_eq, Nat.reduceSub, Nat.reduceAdd, List.append_assoc, tChain, tDIn, tDNotIn, sDDel, tAug, ipI, rInt1_int, rInt1_bl]
      refine ⟨_, sq_t hva, rfl, _, _, rfl, _, _, rfl, rfl, ?_⟩
      refine eq_hd L be1 hb hue (hu1.tp k3.tps) ⟨_, rfl, ?_⟩
      by_cases e1 : e.1 = h
      · rw [decide_eq_true e1, if_pos rfl]
        exact hN (decide_eq_true e1) _ _ rfl (Kp.refl _ _)
      · rw [decide_eq_false e1, if_neg (by decide)]
        exact hN0 (decide_eq_false e1) _ (Kp.refl _ _)
    · have e := rw_strs hrw
      subst e
      exact q D H3 (k1.free0 nD) hD (k1.trans k3)
theorem inS_ens {zs : List Str} {H : Hp} {Q : VK} {x : V} {l : Addr} {us : List V} {h : En} {gs : List En} (L : LkOk zs) (hh : belowE zs.length h) (hg : ∀ g ∈ gs, belowE zs.length g) (hx : ET zs H x h) (hl : SqAny K H l us) (hu : Rw (ET zs H) us gs) (q : Q (.bl (decide (h ∈ gs))) H) : rInS K false x (.ref l) H Q :=
  ⟨_, _, l, us, rfl, hl, rw_dp (fun _ _ z => z.dp) hu, hx.dp, (fk_eD L hh).sh (by decide), (fk_lst (k := 3) fun d hd => by obtain ⟨g, hg', rfl⟩ := List.mem_map.mp hd; exact fk_eD L (hg g hg')).sh (by decide), by
    simp only [Bool.false_eq_true, if_false]
    rw [any_eD L hh hg]; exact q⟩
def spRuI (RC : Addr) (K : PySem.W.Frag) : Sp := fun vs H Q _ => ∃ (o dx la ea : Addr) (zs : List Str) (us : List V) (gs : List En), vs = [.ref o, .ref la, .ref ea] ∧ H o = some (.ins RC dx []) ∧ LkOk zs ∧ H la = some (.tup (zs.map V.str)) ∧ SqAny K H ea us ∧ Rw (ET zs H) us gs ∧ (∀ g ∈ gs, g ∈ ens zs.length) ∧ gs.length ≤ 100 ∧
  ∀ H', RuAt RC H' o zs ((ens zs.length).filter fun e => decide (e ∈ gs)) → Kp [o] H H' → Q .non H'
theorem ok_Rule_init {f : Addr} {fd : FuncData} {dvs : List V} (F : FunD K "__init__" "Rule.__init__" (defArgs s_Rule_init) (defBody s_Rule_init) (defScope s_Rule_init) dvs [] f fd) (T : Bt mg tL t3) (C : RuC K mg RC) {f1 : Addr} {fd1 : FuncData} (D_all_entries : Df K mg "all_entries" s_all_entries ["locks"] f1 fd1) (G_all_entries : FnOk P w K mg base CX0 3 f1 fd1 ["locks"] (spEnts K)) {f2 : Addr} {fd2 : FuncData} (D_is_name : Df K mg "is_name" s_is_name ["value"] f2 fd2) (G_is_name : FnOk P w K mg base CX0 1 f2 fd2 ["value"] spName1) : FnOk P w K mg base CX0 4 f fd ["self", "locks", "entries"] (spRuI RC K) := by
  refine okD0 F sc_Rule_init (fun vs H Q E h => ?_) (fun cdv A outer s H vs Q E hr h => ?_)
  · obtain ⟨_, _, _, _, _, _, _, rfl, _⟩ := h
    rfl
  · obtain ⟨o, dx, la, ea, zs, us, gs, rfl, ho, L, hla, hea, hgs, hin, g100, q⟩ := h
    have hu := hu_of hr
    have E := factE (n := zs.length) (by have := L.le; omega) L.pos
    refine ⟨_, (pss_cons (ps_if (pt_not (pt_chain op_le op_le pe_int (pe_callB (id := "len") (r := Evl.rLenS K) call_len_seq (by rfl) T.b_len PySem.boot_len (pa_cons (pv 1) pa_nil)) (pe_glob (v := .int 3) rfl T.c_MOST_LOCKS ⟨_, rfl⟩))) (pss_one ps_never) pss_nil)
      (pss_cons (ps_for PassesOwn.never rfl (pi_enumT rfl T.b_enumerate (pa_cons (pv 1) pa_nil)) (pg_tup (n := 2) (by rfl) (pgs_cons (pg_name (i := 3) sc_Rule_init.nd rfl (Or.inl rfl)) (pgs_cons (pg_name (i := 4) sc_Rule_init.nd rfl (Or.inl rfl)) pgs_nil))) (pss_one (ps_if (PW.pt (pw_or (pt_not (pt_val (pe_call G_is_name (hr.mono (by decide)) rfl D_is_name.g D_is_name.F.kp D_is_name.b .nil pass0 (pa_cons (pv 4) pa_nil)))) (pw_or1 (pt_cmpR op_in_seq (pv 4) (pe_slice sl_tupA (pv 1) po_none (po_some (pv 3))) (by rfl))))) (pss_one ps_never) pss_nil)))
      (pss_cons (ps_fld (pv 0) (pe_callTy call_list_of (by rfl) T.b_list (by decide +kernel) (pa_cons (pv 1) pa_nil)) rfl)
      (pss_cons (ps_set (i := 5) sc_Rule_init.nd rfl (Or.inl rfl) (pe_call G_all_entries (hr.mono (by decide)) rfl D_all_entries.g D_all_entries.F.kp D_all_entries.b .nil pass0 (pa_cons (pv 1) pa_nil)))
      (pss_cons (ps_for PassesOwn.never rfl (pi_seq (pv 2)) (pg_name (i := 6) sc_Rule_init.nd rfl (Or.inl rfl)) (pss_one (ps_if (pt_cmpR (op_notInD (hu5 hr)) (pv 6) (pv 5) (by rfl)) (pss_one ps_never) pss_nil)))
      (pss_one (ps_fld (pv 0) (pe_lc (own := [("entry", 6)]) (g := (gName 6)) rfl sc_Rule_init.nd (pi_list (pv 5)) (blkOk_by (N := ["self", "locks", "entries", "at", "name", "possible", "entry"]) (sc := defScope s_Rule_init) (by decide +kernel)) (fun _ _ _ _ _ => (pg_name (i := 6) sc_Rule_init.nd rfl (Or.inl rfl))) (fun _ _ _ _ _ => (pts_one (pt_cmpR (r := rInS K false) (op_inS (hu5 hr)) (pv 6) (pv 2) (by rfl)))) (fun _ _ _ _ _ => (pv 6))) rfl))))))), ?_⟩
    try simp (maxSteps := 1000000) only [tSeq, tIfS, tTest, tOp, tUn, tCB, tCons, tNil, tVar, tC, rI0, rI, rU, rEq, rNe, tRet, tRetN, tAsg, gName, gSub, tBM, tBM0, tNext, tB, tNot, tAnd, tOr, tIf, tCall, tDrop, tBreak, tCont, L2.start, tDGet, sDPut, tTup, tLst, tDNewK, tRevL, rCat, rAppend, rPop, rSetL, tAndV, tOrV, tNotV, tSl, tPart, tNoPart, tM1, gTup, gCons, gNil, cxK, cxnK, List.map_cons, List.map_nil, List.length_cons, List.length_nil, List.replicate, List.cons_append, List.nil_append, List.append_nil, List.set_cons_zero, List.set_cons_succ, List.getElem?_cons_zero, List.getElem?_cons_succ, Option.some.injEq, V.ref.injEq, V.int.injEq, V.str.injEq, V.bl.injEq, V.ty.injEq, exists_eq_left', exists_eq_left, exists_and_left, List.cons.injEq, and_true, true_and, sc_ii, sc_ss, sc_bb, sc_ni, sc_in, sc_is, sc_si, sc_nn, decide_true, decide_false, reduceCtorEq, Bool.false_eq_true, if_true, if_false, ite_true, ite_false, exists_const, eq_self, false_and, and_false, or_false, false_or, exists_false, Evl.rLenS, rSum, wipe, tYes, exists_eq, exists_eq', rIxL, rIxT, rIxS, exists_and_right, gt_iff_lt, not_true_eq_false, not_false_eq_true, Bool.not_true, Bool.not_false, decide_eq_true_eq, Nat.reduceSub, Nat.reduceAdd, List.append_assoc, tChain, tDIn, tDNotIn, sDDel, tAug, ipI, rInt1_int, rInt1_bl, sFld]
    have tsO : ∀ x xs H1, Kp [o] H H1 → H x = some (.tup xs) → H1 x = some (.tup xs) := fun x xs H1 k e => k _ _ (not1 fun z => by rw [z, ho] at e; cases e) e
    refine ⟨_, .inr (sq_t hla), ?_⟩
    have n1 := L.pos
    have n3 := L.le
    rw [List.length_map, if_pos (show (1 : Int) ≤ ((zs.length : Nat) : Int) by omega), decide_eq_true (show ((zs.length : Nat) : Int) ≤ 3 by omega), if_neg (by decide)]
    refine ⟨.ref la, rfl, la, _, rfl, sq_t hla, for_it (walk_enumT (K := K) (a := la) (xs := zs.map V.str)) (fun i σ H' => ∃ c3 c4, σ = [some (.ref o), some (.ref la), some (.ref ea), c3, c4, none, none] ∧ Kp [] H H') ⟨none, none, rfl, Kp.refl _ _⟩ (fun i σ H' _ h => by obtain ⟨_, _, _, k⟩ := h; exact k.tp not0 (sq_t hla)) ?_ ?_⟩
    · rintro i x σ H1 H2 hi ⟨c3, c4, rfl, k1⟩ ⟨T0, x1, x2, rfl, hT, rfl, hx1, hx2⟩
      cases hx1
      rw [List.length_map] at hi
      have hx2 : (zs.map V.str)[i]? = some x2 := hx2
      rw [List.getElem?_map, nm_at hi] at hx2
      cases hx2
      have kT := (Kp.new hT : Kp [] H1 (upd H1 T0 (.tup [.int (i : Nat), .str (nmL zs i)])))
      have hT2 : (upd H1 T0 (.tup [.int (i : Nat), .str (nmL zs i)])) T0 = some (.tup [.int (i : Nat), .str (nmL zs i)]) := upd_same
      generalize upd H1 T0 (.tup [.int (i : Nat), .str (nmL zs i)]) = H3 at kT hT2 ⊢
      try simp (maxSteps := 1000000) only [tSeq, tIfS, tTest, tOp, tUn, tCB, tCons, tNil, tVar, tC, rI0, rI, rU, rEq, rNe, tRet, tRetN, tAsg, gName, gSub, tBM, tBM0, tNext, tB, tNot, tAnd, tOr, tIf, tCall, tDrop, tBreak, tCont, L2.start, tDGet, sDPut, tTup, tLst, tDNewK, tRevL, rCat, rAppend, rPop, rSetL, tAndV, tOrV, tNotV, tSl, tPart, tNoPart, tM1, gTup, gCons, gNil, cxK, cxnK, List.map_cons, List.map_nil, List.length_cons, List.length_nil, List.replicate, List.cons_append, List.nil_append, List.append_nil, List.set_cons_zero, List.set_cons_succ, List.getElem?_cons_zero, List.getElem?_cons_succ, Option.some.injEq, V.ref.injEq, V.int.injEq, V.str.injEq, V.bl.injEq, V.ty.injEq, exists_eq_left', exists_eq_left, exists_and_left, List.cons.injEq, and_true, true_and, sc_ii, sc_ss, sc_bb, sc_ni, sc_in, sc_is, sc_si, sc_nn, decide_true, decide_false, reduceCtorEq, Bool.false_eq_true, if_true, if_false, ite_true, ite_false, exists_const, eq_self, false_and, and_false, or_false, false_or, exists_false, Evl.rLenS, rSum, wipe, tYes, exists_eq, exists_eq', rIxL, rIxT, rIxS, exists_and_right, gt_iff_lt, not_true_eq_false, not_false_eq_true, Bool.not_true, Bool.not_false, decide_eq_true_eq, Nat.reduceSub, Nat.reduceAdd, List.append_assoc, tChain, tDIn, tDNotIn, sDDel, tAug, ipI, rInt1_int, rInt1_bl]
      refine ⟨_, sq_t hT2, rfl, _, _, rfl, _, _, rfl, rfl, ?_⟩
      refine ⟨_, rfl, nm_good L hi, fun H4 k4 => ⟨true, rfl, ?_⟩⟩
      have k14 := (k1.trans kT).trans k4
      rw [if_neg (by decide)]
      refine ⟨_, rfl, ?_⟩
      refine slA_to rfl (k14 _ _ not0 hla) fun r H5 hr5 k5 => ?_
      refine ⟨r, _, rfl, .inr (sq_t hr5), rfl, ?_, ?_⟩
      · rw [← List.map_take]
        exact flat_strs _
      · simp only [Bool.false_eq_true, if_false]
        rw [← List.map_take, inV_str, decide_eq_false (fun h => by have := (mem_take_nm L hi).mp h; omega)]
        refine ⟨_, rfl, ?_⟩
        rw [if_neg (by decide)]
        exact k14.trans k5
    · rintro σ H1 ⟨c3, c4, rfl, k1⟩
      try simp (maxSteps := 1000000) only [tSeq, tIfS, tTest, tOp, tUn, tCB, tCons, tNil, tVar, tC, rI0, rI, rU, rEq, rNe, tRet, tRetN, tAsg, gName, gSub, tBM, tBM0, tNext, tB, tNot, tAnd, tOr, tIf, tCall, tDrop, tBreak, tCont, L2.start, tDGet, sDPut, tTup, tLst, tDNewK, tRevL, rCat, rAppend, rPop, rSetL, tAndV, tOrV, tNotV, tSl, tPart, tNoPart, tM1, gTup, gCons, gNil, cxK, cxnK, List.map_cons, List.map_nil, List.length_cons, List.length_nil, List.replicate, List.cons_append, List.nil_append, List.append_nil, List.set_cons_zero, List.set_cons_succ, List.getElem?_cons_zero, List.getElem?_cons_succ, Option.some.injEq, V.ref.injEq, V.int.injEq, V.str.injEq, V.bl.injEq, V.ty.injEq, exists_eq_left', exists_eq_left, exists_and_left, List.cons.injEq, and_true, true_and, sc_ii, sc_ss, sc_bb, sc_ni, sc_in, sc_is, sc_si, sc_nn, decide_true, decide_false, reduceCtorEq, Bool.false_eq_true, if_true, if_false, ite_true, ite_false, exists_const, eq_self, false_and, and_false, or_false, false_or, exists_false, Evl.rLenS, rSum, wipe, tYes, exists_eq, exists_eq', rIxL, rIxT, rIxS, exists_and_right, gt_iff_lt, not_true_eq_false, not_false_eq_true, Bool.not_true, Bool.not_false, decide_eq_true_eq, Nat.reduceSub, Nat.reduceAdd, List.append_assoc, tChain, tDIn, tDNotIn, sDDel, tAug, ipI, rInt1_int, rInt1_bl, sFld]
      have ho1 := k1 _ _ not0 ho
      refine ⟨_, .inr (k1.tp not0 (sq_t hla)), fun l nl => ?_⟩
      have kl := (Kp.new nl : Kp [] H1 (upd H1 l (.lst (zs.map V.str))))
      have hl : (upd H1 l (.lst (zs.map V.str))) l = some (.lst (zs.map V.str)) := upd_same
      generalize upd H1 l (.lst (zs.map V.str)) = H2 at kl hl ⊢
      have ho2 := kl _ _ not0 ho1
      refine ⟨RC, dx, [], ho2, C.cl, C.n1, by decide, ?_⟩
      have k2 := k1.trans kl
      have nsO : NoSq H2 [o] := noSq1 ho2
      have kw : Kp [o] H2 (upd H2 o (.ins RC dx (putF "_locks" (.ref l) []))) := (Kp.refl [o] _).put List.mem_cons_self
      have ho3 : (upd H2 o (.ins RC dx (putF "_locks" (.ref l) []))) o = some (.ins RC dx [("_locks", .ref l)]) := upd_same
      have tp3 : Tp H2 (upd H2 o (.ins RC dx (putF "_locks" (.ref l) []))) := (Tp.refl _).putI ho2
      have hl3 := kw _ _ (not1 fun z => by rw [z, ho2] at hl; cases hl) hl
      have hla3 := tp3 _ _ (k2 _ _ not0 hla)
      have hea3 := (hea.imp (k2.ls not0) (k2.tp not0) : SqAny K H2 ea us).imp (kw.lsN nsO) (kw.tpN nsO)
      have hgs3 : Rw (ET zs (upd H2 o (.ins RC dx (putF "_locks" (.ref l) [])))) us gs := hgs.mono fun _ _ z => (z.tp k2.tps).tp tp3
      have k03 : Kp [o] H (upd H2 o (.ins RC dx (putF "_locks" (.ref l) []))) := (k2.of0).trans kw
      generalize upd H2 o (.ins RC dx (putF "_locks" (.ref l) [])) = H3 at *
      refine ⟨la, zs, rfl, L, .inr (sq_t hla3), fun pl ps H4 npl hpl hps k4 => ?_⟩
      have k04 : Kp [o] H H4 := k03.trans k4.of0
      have hbe : ∀ e ∈ ens zs.length, belowE zs.length e := fun e he => (E.ent e he).1
      refine forS (a := ea) (xs := us) (fun i σ H' => ∃ c6, σ = [some (.ref o), some (.ref la), some (.ref ea), c3, c4, some (.ref pl), c6] ∧ Kp [] H4 H') rfl (hea3.imp (k4.ls not0) (k4.tp not0)) ⟨_, rfl, Kp.refl _ _⟩ (fun j σ' H' h => by obtain ⟨_, _, k⟩ := h; exact k) ?_ ?_
      · rintro j x σ H5 hx ⟨c6, rfl, k5⟩
        obtain ⟨g, eg, hg⟩ := hgs3.get hx
        have gin := hin g (List.mem_of_getElem? eg)
        try simp (maxSteps := 1000000) only [tSeq, tIfS, tTest, tOp, tUn, tCB, tCons, tNil, tVar, tC, rI0, rI, rU, rEq, rNe, tRet, tRetN, tAsg, gName, gSub, tBM, tBM0, tNext, tB, tNot, tAnd, tOr, tIf, tCall, tDrop, tBreak, tCont, L2.start, tDGet, sDPut, tTup, tLst, tDNewK, tRevL, rCat, rAppend, rPop, rSetL, tAndV, tOrV, tNotV, tSl, tPart, tNoPart, tM1, gTup, gCons, gNil, cxK, cxnK, List.map_cons, List.map_nil, List.length_cons, List.length_nil, List.replicate, List.cons_append, List.nil_append, List.append_nil, List.set_cons_zero, List.set_cons_succ, List.getElem?_cons_zero, List.getElem?_cons_succ, Option.some.injEq, V.ref.injEq, V.int.injEq, V.str.injEq, V.bl.injEq, V.ty.injEq, exists_eq_left', exists_eq_left, exists_and_left, List.cons.injEq, and_true, true_and, sc_ii, sc_ss, sc_bb, sc_ni, sc_in, sc_is, sc_si, sc_nn, decide_true, decide_false, reduceCtorEq, Bool.false_eq_true, if_true, if_false, ite_true, ite_false, exists_const, eq_self, false_and, and_false, or_false, false_or, exists_false, Evl.rLenS, rSum, wipe, tYes, exists_eq, exists_eq', rIxL, rIxT, rIxS, exists_and_right, gt_iff_lt, not_true_eq_false, not_false_eq_true, Bool.not_true, Bool.not_false, decide_eq_true_eq, Nat.reduceSub, Nat.reduceAdd, List.append_assoc, tChain, tDIn, tDNotIn, sDDel, tAug, ipI, rInt1_int, rInt1_bl]
        refine nin_ens L (hbe g gin) hbe (hg.tp (k4.trans k5).tps) (sq_l (k5 _ _ not0 hpl)) (hps.mono fun _ _ z => z.tp k5.tps) ⟨_, rfl, ?_⟩
        rw [decide_eq_true gin, if_neg (by decide)]
        exact k5
      · rintro σ H5 ⟨c6, rfl, k5⟩
        try simp (maxSteps := 1000000) only [tSeq, tIfS, tTest, tOp, tUn, tCB, tCons, tNil, tVar, tC, rI0, rI, rU, rEq, rNe, tRet, tRetN, tAsg, gName, gSub, tBM, tBM0, tNext, tB, tNot, tAnd, tOr, tIf, tCall, tDrop, tBreak, tCont, L2.start, tDGet, sDPut, tTup, tLst, tDNewK, tRevL, rCat, rAppend, rPop, rSetL, tAndV, tOrV, tNotV, tSl, tPart, tNoPart, tM1, gTup, gCons, gNil, cxK, cxnK, List.map_cons, List.map_nil, List.length_cons, List.length_nil, List.replicate, List.cons_append, List.nil_append, List.append_nil, List.set_cons_zero, List.set_cons_succ, List.getElem?_cons_zero, List.getElem?_cons_succ, Option.some.injEq, V.ref.injEq, V.int.injEq, V.str.injEq, V.bl.injEq, V.ty.injEq, exists_eq_left', exists_eq_left, exists_and_left, List.cons.injEq, and_true, true_and, sc_ii, sc_ss, sc_bb, sc_ni, sc_in, sc_is, sc_si, sc_nn, decide_true, decide_false, reduceCtorEq, Bool.false_eq_true, if_true, if_false, ite_true, ite_false, exists_const, eq_self, false_and, and_false, or_false, false_or, exists_false, Evl.rLenS, rSum, wipe, tYes, exists_eq, exists_eq', rIxL, rIxT, rIxS, exists_and_right, gt_iff_lt, not_true_eq_false, not_false_eq_true, Bool.not_true, Bool.not_false, decide_eq_true_eq, Nat.reduceSub, Nat.reduceAdd, List.append_assoc, tChain, tDIn, tDNotIn, sDDel, tAug, ipI, rInt1_int, rInt1_bl, sFld]
        have hea5 : SqAny K H5 ea us := (hea3.imp (k4.ls not0) (k4.tp not0) : SqAny K H4 ea us).imp (k5.ls not0) (k5.tp not0)
        have k35 := k4.trans k5
        refine lcG (R := ET zs) (R2 := ET zs) (fun _ _ _ _ t h => h.tp t) (fun _ _ _ _ t h => h.tp t) (fun e => decide (e ∈ gs)) id (src_list (fun R q' => ⟨_, rfl, q'⟩) (sq_l (k5 _ _ not0 hpl))) (hps.mono fun _ _ z => z.tp k5.tps) (by have := E.len; omega) (fun v e H6 N N0 he hv k6 hN hN0 => ?_) fun D us' H6 nD hD hrw k6 => ?_
        · refine ⟨by simp [wipe], ?_⟩
          try simp (maxSteps := 1000000) only [tSeq, tIfS, tTest, tOp, tUn, tCB, tCons, tNil, tVar, tC, rI0, rI, rU, rEq, rNe, tRet, tRetN, tAsg, gName, gSub, tBM, tBM0, tNext, tB, tNot, tAnd, tOr, tIf, tCall, tDrop, tBreak, tCont, L2.start, tDGet, sDPut, tTup, tLst, tDNewK, tRevL, rCat, rAppend, rPop, rSetL, tAndV, tOrV, tNotV, tSl, tPart, tNoPart, tM1, gTup, gCons, gNil, cxK, cxnK, List.map_cons, List.map_nil, List.length_cons, List.length_nil, List.replicate, List.cons_append, List.nil_append, List.append_nil, List.set_cons_zero, List.set_cons_succ, List.getElem?_cons_zero, List.getElem?_cons_succ, Option.some.injEq, V.ref.injEq, V.int.injEq, V.str.injEq, V.bl.injEq, V.ty.injEq, exists_eq_left', exists_eq_left, exists_and_left, List.cons.injEq, and_true, true_and, sc_ii, sc_ss, sc_bb, sc_ni, sc_in, sc_is, sc_si, sc_nn, decide_true, decide_false, reduceCtorEq, Bool.false_eq_true, if_true, if_false, ite_true, ite_false, exists_const, eq_self, false_and, and_false, or_false, false_or, exists_false, Evl.rLenS, rSum, wipe, tYes, exists_eq, exists_eq', rIxL, rIxT, rIxS, exists_and_right, gt_iff_lt, not_true_eq_false, not_false_eq_true, Bool.not_true, Bool.not_false, decide_eq_true_eq, Nat.reduceSub, Nat.reduceAdd, List.append_assoc, tChain, tDIn, tDNotIn, sDDel, tAug, ipI, rInt1_int, rInt1_bl]
          refine inS_ens L (hbe e he) (fun g hg => hbe g (hin g hg)) hv ((hea5.imp (k6.ls not0) (k6.tp not0) : SqAny K H6 ea us)) (hgs3.mono fun _ _ z => (z.tp k35.tps).tp k6.tps) ⟨_, rfl, ?_⟩
          by_cases e1 : e ∈ gs
          · rw [decide_eq_true e1, if_pos rfl]
            exact hN (decide_eq_true e1) _ _ hv (Kp.refl _ _)
          · rw [decide_eq_false e1, if_neg (by decide)]
            exact hN0 (decide_eq_false e1) _ (Kp.refl _ _)
        · rw [List.map_id] at hrw
          have k36 := k35.trans k6
          have ho6 := k36 _ _ not0 ho3
          have hl6 := k36 _ _ not0 hl3
          refine ⟨RC, dx, _, ho6, C.cl, C.n2, by show 1 < 1000; decide, ?_⟩
          have tp : Tp H6 (upd H6 o (.ins RC dx (putF "_entries" (.ref D) [("_locks", .ref l)]))) := (Tp.refl _).putI ho6
          have kw6 : Kp [o] H6 (upd H6 o (.ins RC dx (putF "_entries" (.ref D) [("_locks", .ref l)]))) := (Kp.refl [o] _).put List.mem_cons_self
          refine q _ ⟨dx, l, D, us', by rw [upd_same]; rfl, kw6 _ _ (not1 fun z => by rw [z, ho6] at hl6; cases hl6) hl6, kw6 _ _ (not1 fun z => by rw [z, ho6] at hD; cases hD) hD, hrw.mono fun _ _ z => z.tp tp, L, List.filter_sublist⟩ ((k03.trans k36.of0).trans kw6)
end
end My

set_option Elab.async false
set_option linter.all false
set_option maxRecDepth 100000
set_option maxHeartbeats 4000000
namespace My
open PySem L2 NdefX
abbrev s_Rule_keeps : Stmt := mtop 12 9
theorem sc_Rule_keeps : FnScope ["self", "steps", "held", "step", "word", "name"] ["self", "steps"] (defScope s_Rule_keeps) := ⟨rfl, rfl, rfl, by decide +kernel, rfl, by decide +kernel, by decide +kernel⟩
/-- a text -/
def isW (a : Str) : PyData → Bool
  | .str b => a == b
  | _ => false
theorem eqv_w (a : Str) (d : PyData) : PyData.eqv (.str a) d = isW a d := by cases d <;> rfl
theorem eqv_w2 (a : Str) (d : PyData) : PyData.eqv d (.str a) = isW a d := by
  cases d with
  | str b =>
    show (b == a) = (a == b)
    exact Bool.beq_comm
  | _ => rfl
/-- the place of a name, if it is one -/
def rkD (zs : List Str) (x : PyData) : Option Nat := (List.range zs.length).find? fun r => isW (nmL zs r) x
theorem rkD_some {zs : List Str} {x : PyData} {r : Nat} (h : rkD zs x = some r) : r < zs.length ∧ x = .str (nmL zs r) := by
  unfold rkD at h
  have h1 := List.mem_of_find?_eq_some h
  have h2 := List.find?_some h
  refine ⟨List.mem_range.mp h1, ?_⟩
  cases x with
  | str b => rw [show nmL zs r = b from beq_iff_eq.mp h2]
  | _ => cases h2
theorem rkD_none {zs : List Str} {x : PyData} (h : rkD zs x = none) {r : Nat} (hr : r < zs.length) : isW (nmL zs r) x = false := by
  unfold rkD at h
  have := List.find?_eq_none.mp h r (List.mem_range.mpr hr)
  simpa using this
theorem isW_of {zs : List Str} (L : LkOk zs) {x : PyData} {r t : Nat} (h : rkD zs x = some r) (ht : t < zs.length) : isW (nmL zs t) x = decide (t = r) := by
  obtain ⟨hr, e⟩ := rkD_some h
  rw [e]
  show (nmL zs t == nmL zs r) = _
  rw [Bool.eq_iff_iff, beq_iff_eq, decide_eq_true_eq]
  exact nm_eq L ht hr
def lockW : Str := "lock"
def freeW : Str := "free"
def hasE (zs : List Str) (es : List En) (h : Hd) (x : PyData) : Bool := match rkD zs x with
  | some r => decide ((h, r) ∈ es)
  | none => false
def hasH (zs : List Str) (h : Hd) (x : PyData) : Bool := match rkD zs x with
  | some r => decide (r ∈ h)
  | none => false
theorem any_E {zs : List Str} (L : LkOk zs) {h : Hd} {x : PyData} (hh : below zs.length h) : ∀ {es : List En}, (∀ e ∈ es, belowE zs.length e) → ((es.map (eD zs)).any fun z => PyData.eqv z (.tuple [hD zs h, x])) = hasE zs es h x
  | [], _ => by unfold hasE; cases rkD zs x <;> simp
  | e :: es, he => by
    have hb := he e List.mem_cons_self
    rw [List.map_cons, List.any_cons, any_E L hh fun y hy => he y (List.mem_cons_of_mem _ hy)]
    have ev : PyData.eqv (eD zs e) (.tuple [hD zs h, x]) = (decide (e.1 = h) && isW (nmL zs e.2) x) := by
      show (PyData.eqv (hD zs e.1) (hD zs h) && (PyData.eqv (.str (nmL zs e.2)) x && true)) = _
      rw [eqv_hD L hb.1 hh, eqv_w, Bool.and_true]
    rw [ev]
    unfold hasE
    cases hr : rkD zs x with
    | none => rw [rkD_none hr hb.2, Bool.and_false]; rfl
    | some r =>
      rw [isW_of L hr hb.2]
      rw [Bool.eq_iff_iff]
      simp only [Bool.or_eq_true, Bool.and_eq_true, decide_eq_true_eq, List.mem_cons]
      constructor
      · rintro (⟨a, b⟩ | c)
        · exact .inl (Prod.ext a.symm b.symm)
        · exact .inr c
      · rintro (a | c)
        · exact .inl ⟨by rw [← a], by rw [← a]⟩
        · exact .inr c
theorem any_H {zs : List Str} (L : LkOk zs) {x : PyData} : ∀ {h : Hd}, below zs.length h → (((nmH zs h).map PyData.str).any fun z => PyData.eqv z x) = hasH zs h x
  | [], _ => by unfold hasH; cases rkD zs x <;> simp [nmH]
  | t :: h, hb => by
    have ht := hb t List.mem_cons_self
    have ih := any_H L (x := x) (h := h) fun y hy => hb y (List.mem_cons_of_mem _ hy)
    have e1 : (nmH zs (t :: h)).map PyData.str = .str (nmL zs t) :: (nmH zs h).map PyData.str := rfl
    rw [e1, List.any_cons, ih, eqv_w]
    unfold hasH
    cases hr : rkD zs x with
    | none => rw [rkD_none hr ht]; rfl
    | some r =>
      rw [isW_of L hr ht, Bool.eq_iff_iff]
      simp only [Bool.or_eq_true, decide_eq_true_eq, List.mem_cons]
      constructor
      · rintro (a | c)
        · exact .inl a.symm
        · exact .inr c
      · rintro (a | c)
        · exact .inl a.symm
        · exact .inr c
/-- one step of a program -/
def stepD (zs : List Str) (es : List En) (h : Hd) : PyData → Option Hd
  | .tuple [w, x] => if (isW lockW w && hasE zs es h x) || (isW freeW w && hasH zs h x) then (rkD zs x).map fun r => aftR zs.length r h else none
  | _ => none
def runD (zs : List Str) (es : List En) : Hd → List PyData → Option Hd
  | h, [] => some h
  | h, d :: ds => (stepD zs es h d).bind fun g => runD zs es g ds
theorem runD_app {zs : List Str} {es : List En} : ∀ {ds : List PyData} {h : Hd} {fs : List PyData}, runD zs es h (ds ++ fs) = (runD zs es h ds).bind fun g => runD zs es g fs
  | [], h, fs => rfl
  | d :: ds, h, fs => by
    show (stepD zs es h d).bind _ = ((stepD zs es h d).bind _).bind _
    cases stepD zs es h d with
    | none => rfl
    | some g => exact runD_app
def keepD (zs : List Str) (es : List En) (ds : List PyData) : Bool := decide (runD zs es [] ds = some [])
def isLk : PyData → Bool
  | .tuple [w, _] => isW lockW w || isW freeW w
  | _ => false
theorem dq_len {H : Hp} : ∀ {ds : List PyData} {vs : List V}, DqAll H vs ds → vs.length = ds.length
  | _, _, .nil => rfl
  | _, _, .cons _ t => by rw [List.length_cons, List.length_cons, dq_len t]
theorem dqGet {H : Hp} : ∀ {ds : List PyData} {vs : List V}, DqAll H vs ds → ∀ {i : Nat} {v : V}, vs[i]? = some v → ∃ d, ds[i]? = some d ∧ Dq H v d
  | _, _, .nil, i, v, e => by cases e
  | _, _, .cons h t, 0, v, e => by cases e; exact ⟨_, rfl, h⟩
  | _, _, .cons h t, i + 1, v, e => dqGet t (i := i) (by simpa using e)
theorem fk_memA {k : Nat} {ds : List PyData} (h1 : PyData.canLayAll0 ds = true) (h2 : PyData.depthAll ds + 1 ≤ k) {d : PyData} (hd : d ∈ ds) : Fk k d := by
  induction ds with
  | nil => cases hd
  | cons x r ih =>
    have h1 : (PyData.canLay0 x && PyData.canLayAll0 r) = true := h1
    have h2 : max x.depth (PyData.depthAll r) + 1 ≤ k := h2
    rw [Bool.and_eq_true] at h1
    rcases List.mem_cons.mp hd with rfl | hd
    · exact ⟨h1.1, by omega⟩
    · exact ih h1.2 (by omega) hd
theorem fk_mem {k : Nat} {ds : List PyData} (h : Fk k (.tuple ds)) {d : PyData} (hd : d ∈ ds) : Fk k d := fk_memA h.1 h.2 hd
section
variable {P : Program} {w : World} {K : PySem.W.Frag} {mg : Str → Option Value} {base : Heap} {tL t3 : Tok} {RC : Addr}
def spLkS : Sp := fun vs H Q _ => ∃ (v : V) (d : PyData), vs = [v] ∧ Dq H v d ∧ Fk 20 d ∧ ∀ H', Kp [] H H' → Q (.bl (isLk d)) H'
theorem ok_is_lock_step {f : Addr} {fd : FuncData} (D : Df K mg "is_lock_step" s_is_lock_step ["step"] f fd) (T : Bt mg tL t3) : FnOk P w K mg base CX0 1 f fd ["step"] spLkS := by
  refine D.F.ok sc_is_lock_step (fun vs H Q E h => ?_) (fun cdv A outer s H vs Q E hr h => ?_)
  · obtain ⟨_, _, rfl, _⟩ := h
    rfl
  · obtain ⟨v, d, rfl, hd, fk, q⟩ := h
    have hu := hu_of hr
    refine ⟨_, (pss_one (ps_ret (pe_and (pe_callB (id := "isinstance") (r := rIsi K) call_isi (by rfl) T.b_isinstance (by decide +kernel) (pa_cons (pv 0) (pa_cons (pe_bltn (v := .ty "tuple") (by rfl) T.b_tuple (by decide +kernel) rfl) pa_nil))) (pe_and (pe_cmpR op_eq (pe_callB (id := "len") (r := Evl.rLenS K) call_len_seq (by rfl) T.b_len PySem.boot_len (pa_cons (pv 0) pa_nil)) pe_int (nomark _)) (pe_one (pe_cmpR (op_inT (hu5 hr)) (pe_ix (r := rIxT K) ix_tup (pv 0) pe_int (fun _ _ => rfl)) (pe_tup (pa_cons pe_str (pa_cons pe_str pa_nil))) (by rfl))))))), ?_⟩
    try simp (maxSteps := 1000000) only [tSeq, tIfS, tTest, tOp, tUn, tCB, tCons, tNil, tVar, tC, rI0, rI, rU, rEq, rNe, tRet, tRetN, tAsg, gName, gSub, tBM, tBM0, tNext, tB, tNot, tAnd, tOr, tIf, tCall, tDrop, tBreak, tCont, L2.start, tDGet, sDPut, tTup, tLst, tDNewK, tRevL, rCat, rAppend, rPop, rSetL, tAndV, tOrV, tNotV, tSl, tPart, tNoPart, tM1, gTup, gCons, gNil, cxK, cxnK, List.map_cons, List.map_nil, List.length_cons, List.length_nil, List.replicate, List.cons_append, List.nil_append, List.append_nil, List.set_cons_zero, List.set_cons_succ, List.getElem?_cons_zero, List.getElem?_cons_succ, Option.some.injEq, V.ref.injEq, V.int.injEq, V.str.injEq, V.bl.injEq, V.ty.injEq, exists_eq_left', exists_eq_left, exists_and_left, List.cons.injEq, and_true, true_and, sc_ii, sc_ss, sc_bb, sc_ni, sc_in, sc_is, sc_si, sc_nn, decide_true, decide_false, reduceCtorEq, Bool.false_eq_true, if_true, if_false, ite_true, ite_false, exists_const, eq_self, false_and, and_false, or_false, false_or, exists_false, Evl.rLenS, rSum, wipe, tYes, exists_eq, exists_eq', rIxL, rIxT, rIxS, exists_and_right, gt_iff_lt, not_true_eq_false, not_false_eq_true, Bool.not_true, Bool.not_false, decide_eq_true_eq, Nat.reduceSub, Nat.reduceAdd, List.append_assoc, tChain, tDIn, tDNotIn, sDDel, tAug, ipI, rInt1_int, rInt1_bl]
    refine isi_Dtup hd ?_
    refine ⟨_, rfl, ?_⟩
    cases hd with
    | @tup a xs ds ha hx =>
      rw [show isTupD (.tuple ds) = true from rfl, if_pos rfl]
      refine ⟨a, rfl, xs, .inr (sq_t ha), ?_⟩
      have hl := dq_len hx
      match ds, xs, hx, hl, q with
      | [], [], _, _, q => rw [if_neg (by decide)]; exact q _ (Kp.refl _ _)
      | [_], [_], _, _, q => rw [if_neg (by simp)]; exact q _ (Kp.refl _ _)
      | [d1, d2], [v1, v2], .cons h1 (.cons h2 .nil), _, q =>
        rw [if_pos (by rfl)]
        have f1 : Fk 20 d1 := fk_mem fk List.mem_cons_self
        refine ⟨a, rfl, _, sq_t ha, _, rfl, by rw [sizeLine_eq]; decide, fun p np => ?_⟩
        have kp := (Kp.new np : Kp [] H (upd H p (.tup [.str (Str.ofString "lock"), .str (Str.ofString "free")])))
        refine ⟨d1, [.str lockW, .str freeW], (h1.kp kp).dp, .tup (sq_t upd_same) (.cons (.str _) (.cons (.str _) .nil)), f1.sh (by decide), by decide +kernel, ?_⟩
        simp only [Bool.false_eq_true, if_false]
        have e : ([PyData.str lockW, .str freeW].any fun z => PyData.eqv z d1) = (isW lockW d1 || isW freeW d1) := by
          rw [List.any_cons, List.any_cons, eqv_w, eqv_w]
          simp
        rw [e]
        exact q _ kp
      | _ :: _ :: _ :: r, _ :: _ :: _ :: r', _, _, q =>
        rw [if_neg (by simp only [List.length_cons]; omega)]
        exact q _ (Kp.refl _ _)
    | _ => exact q _ (Kp.refl _ _)
theorem eqW {H : Hp} {v : V} {d : PyData} {a : Str} {Q : VK} (hd : Dp K H v d) (fk : Fk 20 d) (ok : PyData.canLay0 (.str a) = true) (q : Q (.bl (isW a d)) H) : rEqD K v (.str a) H Q :=
  ⟨d, .str a, hd, .str a, fk.sh (by decide), (show Fk 1 (.str a) from ⟨ok, by simp [PyData.depth]⟩).sh (by decide), by rw [eqv_w2]; exact q⟩
def spKeep (RC : Addr) : Sp := fun vs H Q _ => ∃ (o l : Addr) (us : List V) (zs : List Str) (es : List En) (ds : List PyData), vs = [.ref o, .ref l] ∧ RuAt RC H o zs es ∧ H l = some (.lst us) ∧ DqAll H us ds ∧ (∀ d ∈ ds, Fk 20 d) ∧ ∀ H', Kp [] H H' → Q (.bl (keepD zs es ds)) H'
theorem ok_Rule_keeps {f : Addr} {fd : FuncData} (F : Fun K "keeps" "Rule.keeps" s_Rule_keeps f fd) (T : Bt mg tL t3) (C : RuC K mg RC) {f1 : Addr} {fd1 : FuncData} (D_is_lock_step : Df K mg "is_lock_step" s_is_lock_step ["step"] f1 fd1) (G_is_lock_step : FnOk P w K mg base CX0 1 f1 fd1 ["step"] spLkS) {f2 : Addr} {fd2 : FuncData} (D_held_after : Df K mg "held_after" s_held_after ["held", "name", "locks"] f2 fd2) (G_held_after : FnOk P w K mg base CX0 1 f2 fd2 ["held", "name", "locks"] (spAft K)) : FnOk P w K mg base CX0 2 f fd ["self", "steps"] (spKeep RC) := by
  refine F.ok sc_Rule_keeps (fun vs H Q E h => ?_) (fun cdv A outer s H vs Q E hr h => ?_)
  · obtain ⟨_, _, _, _, _, _, rfl, _⟩ := h
    rfl
  · obtain ⟨o, l, us, zs, es, ds, rfl, hR, hl, hds, fks, q⟩ := h
    have hu := hu_of hr
    obtain ⟨dx, la, m, ue, ho, hla, hm, hue, L, hs⟩ := id hR
    have E := factE (n := zs.length) (by have := L.le; omega) L.pos
    have hbe : ∀ e ∈ es, belowE zs.length e := fun e he => (E.ent e (hs.subset he)).1
    refine ⟨_, (pss_cons (ps_set (i := 2) sc_Rule_keeps.nd rfl (Or.inl rfl) (pe_tup pa_nil))
      (pss_cons (ps_for PassesOwn.never rfl (pi_list (pv 1)) (pg_name (i := 3) sc_Rule_keeps.nd rfl (Or.inl rfl)) (pss_cons (ps_if (pt_not (pt_val (pe_call G_is_lock_step (hr.mono (by decide)) rfl D_is_lock_step.g D_is_lock_step.F.kp D_is_lock_step.b .nil pass0 (pa_cons (pv 3) pa_nil)))) (pss_one (ps_ret pe_bl)) pss_nil)
      (pss_cons (ps_asg (pv 3) (pg_tup (n := 2) (by rfl) (pgs_cons (pg_name (i := 4) sc_Rule_keeps.nd rfl (Or.inl rfl)) (pgs_cons (pg_name (i := 5) sc_Rule_keeps.nd rfl (Or.inl rfl)) pgs_nil))))
      (pss_cons (ps_if (PW.pt (pw_and (pt_cmpR (op_eqD hr.units) (pv 4) pe_str (nomark _)) (pw_and1 (pt_cmpR (op_notInD (hu5 hr)) (pe_tup (pa_cons (pv 2) (pa_cons (pv 5) pa_nil))) (pe_fld (pv 0) rfl) (by rfl))))) (pss_one (ps_ret pe_bl)) pss_nil)
      (pss_cons (ps_if (PW.pt (pw_and (pt_cmpR (op_eqD hr.units) (pv 4) pe_str (nomark _)) (pw_and1 (pt_cmpR (op_notInT (hu5 hr)) (pv 5) (pv 2) (by rfl))))) (pss_one (ps_ret pe_bl)) pss_nil)
      (pss_one (ps_set (i := 2) sc_Rule_keeps.nd rfl (Or.inl rfl) (pe_call G_held_after (hr.mono (by decide)) rfl D_held_after.g D_held_after.F.kp D_held_after.b .nil pass0 (pa_cons (pv 2) (pa_cons (pv 5) (pa_cons (pe_fld (pv 0) rfl) pa_nil)))))))))))
      (pss_one (ps_ret (pe_cmpR (op_eqD hr.units) (pv 2) (pe_tup pa_nil) (nomark _)))))), ?_⟩
    try simp (maxSteps := 1000000) only [tSeq, tIfS, tTest, tOp, tUn, tCB, tCons, tNil, tVar, tC, rI0, rI, rU, rEq, rNe, tRet, tRetN, tAsg, gName, gSub, tBM, tBM0, tNext, tB, tNot, tAnd, tOr, tIf, tCall, tDrop, tBreak, tCont, L2.start, tDGet, sDPut, tTup, tLst, tDNewK, tRevL, rCat, rAppend, rPop, rSetL, tAndV, tOrV, tNotV, tSl, tPart, tNoPart, tM1, gTup, gCons, gNil, cxK, cxnK, List.map_cons, List.map_nil, List.length_cons, List.length_nil, List.replicate, List.cons_append, List.nil_append, List.append_nil, List.set_cons_zero, List.set_cons_succ, List.getElem?_cons_zero, List.getElem?_cons_succ, Option.some.injEq, V.ref.injEq, V.int.injEq, V.str.injEq, V.bl.injEq, V.ty.injEq, exists_eq_left', exists_eq_left, exists_and_left, List.cons.injEq, and_true, true_and, sc_ii, sc_ss, sc_bb, sc_ni, sc_in, sc_is, sc_si, sc_nn, decide_true, decide_false, reduceCtorEq, Bool.false_eq_true, if_true, if_false, ite_true, ite_false, exists_const, eq_self, false_and, and_false, or_false, false_or, exists_false, Evl.rLenS, rSum, wipe, tYes, exists_eq, exists_eq', rIxL, rIxT, rIxS, exists_and_right, gt_iff_lt, not_true_eq_false, not_false_eq_true, Bool.not_true, Bool.not_false, decide_eq_true_eq, Nat.reduceSub, Nat.reduceAdd, List.append_assoc, tChain, tDIn, tDNotIn, sDDel, tAug, ipI, rInt1_int, rInt1_bl, tFld]
    refine ⟨Nat.zero_le _, fun e0 ne0 => ?_⟩
    have k0 := (Kp.new ne0 : Kp [] H (upd H e0 (.tup [])))
    have he0 : (upd H e0 (.tup [])) e0 = some (.tup []) := upd_same
    generalize upd H e0 (.tup []) = H0 at k0 he0 ⊢
    refine ⟨.ref l, rfl, l, rfl, ⟨_, sq_l (k0 _ _ not0 hl)⟩, for_list (K := K) (a := l) (xs := us) (fun i σ H' => ∃ (v : V) (h : Hd) (c3 c4 c5 : Option V), σ = [some (.ref o), some (.ref l), some v, c3, c4, c5] ∧ HT zs H' v h ∧ h ∈ hls zs.length ∧ runD zs es [] (ds.take i) = some h ∧ Kp [] H H') ⟨_, [], _, _, _, rfl, HT.of he0, E.nil, rfl, k0⟩ (fun i σ H' _ h => by obtain ⟨_, _, _, _, _, _, _, _, _, k⟩ := h; exact k.ls not0 (sq_l hl)) ?_ ?_⟩
    · rintro i x σ H1 hx ⟨v, h, c3, c4, c5, rfl, hv, hh, hrun, k1⟩
      obtain ⟨d, ed, hd⟩ := dqGet hds hx
      have hd1 := hd.kp k1
      have fk := fks d (List.mem_of_getElem? ed)
      obtain ⟨hb, h3, haft⟩ := E.hld h hh
      have et : ds.take (i + 1) = ds.take i ++ [d] := take_snoc ed
      have hrun2 : runD zs es [] (ds.take (i + 1)) = stepD zs es h d := by
        rw [et, runD_app, hrun]
        show (stepD zs es h d).bind (fun g => some g) = _
        cases stepD zs es h d <;> rfl
      have no : stepD zs es h d = none → ∀ H', Kp [] H H' → Q (.bl false) H' := fun hn H' k => by
        have : keepD zs es ds = false := by
          unfold keepD
          rw [← List.take_append_drop (i + 1) ds, runD_app, hrun2, hn]
          rfl
        rw [← this]
        exact q H' k
      try simp (maxSteps := 1000000) only [tSeq, tIfS, tTest, tOp, tUn, tCB, tCons, tNil, tVar, tC, rI0, rI, rU, rEq, rNe, tRet, tRetN, tAsg, gName, gSub, tBM, tBM0, tNext, tB, tNot, tAnd, tOr, tIf, tCall, tDrop, tBreak, tCont, L2.start, tDGet, sDPut, tTup, tLst, tDNewK, tRevL, rCat, rAppend, rPop, rSetL, tAndV, tOrV, tNotV, tSl, tPart, tNoPart, tM1, gTup, gCons, gNil, cxK, cxnK, List.map_cons, List.map_nil, List.length_cons, List.length_nil, List.replicate, List.cons_append, List.nil_append, List.append_nil, List.set_cons_zero, List.set_cons_succ, List.getElem?_cons_zero, List.getElem?_cons_succ, Option.some.injEq, V.ref.injEq, V.int.injEq, V.str.injEq, V.bl.injEq, V.ty.injEq, exists_eq_left', exists_eq_left, exists_and_left, List.cons.injEq, and_true, true_and, sc_ii, sc_ss, sc_bb, sc_ni, sc_in, sc_is, sc_si, sc_nn, decide_true, decide_false, reduceCtorEq, Bool.false_eq_true, if_true, if_false, ite_true, ite_false, exists_const, eq_self, false_and, and_false, or_false, false_or, exists_false, Evl.rLenS, rSum, wipe, tYes, exists_eq, exists_eq', rIxL, rIxT, rIxS, exists_and_right, gt_iff_lt, not_true_eq_false, not_false_eq_true, Bool.not_true, Bool.not_false, decide_eq_true_eq, Nat.reduceSub, Nat.reduceAdd, List.append_assoc, tChain, tDIn, tDNotIn, sDDel, tAug, ipI, rInt1_int, rInt1_bl, tFld]
      refine ⟨x, d, rfl, hd1, fk, fun H2 k2 => ⟨_, rfl, ?_⟩⟩
      have k02 := k1.trans k2
      have hd2 := hd1.kp k2
      by_cases lk : isLk d = true
      · rw [lk, if_neg (by decide)]
        cases hd2 with
        | @tup a xs ds' ha hxs =>
          match ds', xs, hxs, lk, fk, hrun2, no with
          | [d1, d2], [v1, v2], .cons h1 (.cons h2 .nil), lk, fk, hrun2, no =>
            have f1 : Fk 20 d1 := fk_mem fk List.mem_cons_self
            have f2 : Fk 20 d2 := fk_mem fk (by simp)
            have lk : (isW lockW d1 || isW freeW d1) = true := lk
            have ho2 := k02 _ _ not0 ho
            have hst : stepD zs es h (.tuple [d1, d2]) = if (isW lockW d1 && hasE zs es h d2) || (isW freeW d1 && hasH zs h d2) then (rkD zs d2).map fun r => aftR zs.length r h else none := rfl
            have aft : ∀ r H', rkD zs d2 = some r → stepD zs es h (.tuple [d1, d2]) = some (aftR zs.length r h) → Kp [] H2 H' → ∃ x x_1 x_2, H' o = some (HO.ins x x_1 x_2) ∧ Cls K x ∧ NoAttr K x (Str.ofString "_locks") ∧ ∃ x, List.lookup (Str.ofString "_locks") x_2 = some x ∧ spAft K [v, v2, x] H' (fun x H1 => ∃ x_3, HT zs H1 x x_3 ∧ x_3 ∈ hls zs.length ∧ runD zs es [] (List.take (i + 1) ds) = some x_3 ∧ Kp [] H H1) E0 := fun r H' hr hs2 k => by
              obtain ⟨rn, e⟩ := rkD_some hr
              subst e
              cases h2
              have k0' := k02.trans k
              refine ⟨RC, dx, _, k _ _ not0 ho2, C.cl, C.n1, .ref la, rfl, v, la, zs, r, h, rfl, L, rn, (hv.tp k2.tps).tp k.tps, hb, by omega, .inl (sq_l (k0' _ _ not0 hla)), fun v' H3 hv' k3 => ⟨_, hv', haft r rn, by rw [hrun2, hs2], k0'.trans k3⟩⟩
            refine ⟨a, rfl, _, sq_t ha, rfl, _, _, rfl, _, _, rfl, rfl, ?_⟩
            refine eqW (a := lockW) h1.dp f1 (by decide +kernel) ⟨_, rfl, ?_⟩
            have lf : isW lockW d1 = true → isW freeW d1 = false := fun e => by
              cases d1 with
              | str b =>
                have : lockW = b := beq_iff_eq.mp e
                subst this
                decide +kernel
              | _ => cases e
            by_cases lw : isW lockW d1 = true
            · rw [if_pos lw]
              have fw := lf lw
              refine ⟨by rw [sizeLine_eq]; decide, fun p np => ?_⟩
              have kp := (Kp.new np : Kp [] H2 (upd H2 p (.tup [v, v2])))
              have hp : (upd H2 p (.tup [v, v2])) p = some (.tup [v, v2]) := upd_same
              generalize upd H2 p (.tup [v, v2]) = H3 at kp hp ⊢
              have k03 := k02.trans kp
              refine ⟨RC, dx, _, kp _ _ not0 ho2, C.cl, C.n2, .ref m, rfl, ?_⟩
              have hv3 := (hv.tp k2.tps).tp kp.tps
              refine ⟨.tuple [hD zs h, d2], _, .tup (sq_t hp) (.cons hv3.dp (.cons (h2.kp kp).dp .nil)), .lst (sq_l (k03 _ _ not0 hm)) (rw_dp (fun _ _ z => (z.tp k03.tps).dp) hue), (fk_tup (k := 20) fun d hd => ?_).sh (by decide), (fk_lst (k := 3) fun d hd => by obtain ⟨g, hg', rfl⟩ := List.mem_map.mp hd; exact fk_eD L (hbe g hg')).sh (by decide), _, rfl, ?_⟩
              · rcases List.mem_cons.mp hd with rfl | hd
                · exact (fk_hD L hb).mono (by decide)
                · rw [List.mem_singleton.mp hd]; exact f2
              rw [any_E L hb hbe]
              rw [lw, fw, Bool.true_and, Bool.false_and, Bool.or_false] at hst
              cases he : hasE zs es h d2 with
              | false =>
                rw [he, if_neg (by decide)] at hst
                rw [if_pos (by decide)]
                exact no hst _ k03
              | true =>
                rw [he, if_pos rfl] at hst
                rw [if_neg (by decide)]
                obtain ⟨r, hr⟩ : ∃ r, rkD zs d2 = some r := by
                  unfold hasE at he
                  cases hr : rkD zs d2 with
                  | none => rw [hr] at he; cases he
                  | some r => exact ⟨r, rfl⟩
                refine eqW (a := freeW) (h1.kp kp).dp f1 (by decide +kernel) ⟨_, rfl, ?_⟩
                rw [fw, if_neg (by decide)]
                exact aft r H3 hr (by rw [hst, hr]; rfl) kp
            · have lw : isW lockW d1 = false := by simpa using lw
              rw [lw, Bool.false_or] at lk
              rw [lw, if_neg (by decide)]
              refine eqW (a := freeW) h1.dp f1 (by decide +kernel) ⟨_, rfl, ?_⟩
              rw [if_pos lk]
              have hv2 := hv.tp k2.tps
              refine ⟨d2, _, h2.dp, hv2.dp, f2.sh (by decide), (fk_hD L hb).sh (by decide), _, rfl, ?_⟩
              rw [if_pos rfl, any_H L hb]
              rw [lw, lk, Bool.false_and, Bool.true_and, Bool.false_or] at hst
              cases he : hasH zs h d2 with
              | false =>
                rw [he, if_neg (by decide)] at hst
                rw [if_pos (by decide)]
                exact no hst _ k02
              | true =>
                rw [he, if_pos rfl] at hst
                rw [if_neg (by decide)]
                obtain ⟨r, hr⟩ : ∃ r, rkD zs d2 = some r := by
                  unfold hasH at he
                  cases hr : rkD zs d2 with
                  | none => rw [hr] at he; cases he
                  | some r => exact ⟨r, rfl⟩
                exact aft r H2 hr (by rw [hst, hr]; rfl) (Kp.refl _ _)
        | _ => cases lk
      · have lk : isLk d = false := by simpa using lk
        rw [lk, if_pos (by decide)]
        refine no ?_ _ k02
        match d, lk with
        | .tuple [d1, d2], lk =>
          have lk : (isW lockW d1 || isW freeW d1) = false := lk
          rw [Bool.or_eq_false_iff] at lk
          show (if (isW lockW d1 && hasE zs es h d2) || (isW freeW d1 && hasH zs h d2) then _ else none) = none
          rw [lk.1, lk.2]
          rfl
        | .tuple [], _ => rfl
        | .tuple [_], _ => rfl
        | .tuple (_ :: _ :: _ :: _), _ => rfl
        | .none, _ => rfl
        | .bool _, _ => rfl
        | .int _, _ => rfl
        | .str _, _ => rfl
        | .list _, _ => rfl
    · rintro σ H1 ⟨v, h, c3, c4, c5, rfl, hv, hh, hrun, k1⟩
      have hlen := dq_len hds
      rw [hlen, List.take_length] at hrun
      try simp (maxSteps := 1000000) only [tSeq, tIfS, tTest, tOp, tUn, tCB, tCons, tNil, tVar, tC, rI0, rI, rU, rEq, rNe, tRet, tRetN, tAsg, gName, gSub, tBM, tBM0, tNext, tB, tNot, tAnd, tOr, tIf, tCall, tDrop, tBreak, tCont, L2.start, tDGet, sDPut, tTup, tLst, tDNewK, tRevL, rCat, rAppend, rPop, rSetL, tAndV, tOrV, tNotV, tSl, tPart, tNoPart, tM1, gTup, gCons, gNil, cxK, cxnK, List.map_cons, List.map_nil, List.length_cons, List.length_nil, List.replicate, List.cons_append, List.nil_append, List.append_nil, List.set_cons_zero, List.set_cons_succ, List.getElem?_cons_zero, List.getElem?_cons_succ, Option.some.injEq, V.ref.injEq, V.int.injEq, V.str.injEq, V.bl.injEq, V.ty.injEq, exists_eq_left', exists_eq_left, exists_and_left, List.cons.injEq, and_true, true_and, sc_ii, sc_ss, sc_bb, sc_ni, sc_in, sc_is, sc_si, sc_nn, decide_true, decide_false, reduceCtorEq, Bool.false_eq_true, if_true, if_false, ite_true, ite_false, exists_const, eq_self, false_and, and_false, or_false, false_or, exists_false, Evl.rLenS, rSum, wipe, tYes, exists_eq, exists_eq', rIxL, rIxT, rIxS, exists_and_right, gt_iff_lt, not_true_eq_false, not_false_eq_true, Bool.not_true, Bool.not_false, decide_eq_true_eq, Nat.reduceSub, Nat.reduceAdd, List.append_assoc, tChain, tDIn, tDNotIn, sDDel, tAug, ipI, rInt1_int, rInt1_bl, tFld]
      refine ⟨Nat.zero_le _, fun p np => ?_⟩
      have kp := (Kp.new np : Kp [] H1 (upd H1 p (.tup [])))
      obtain ⟨hb, _, _⟩ := E.hld h hh
      refine eq_hd (b := []) L hb (fun y hy => nomatch hy) (hv.tp kp.tps) ⟨p, rfl, upd_same⟩ ?_
      have : keepD zs es ds = decide (h = []) := by
        unfold keepD
        rw [hrun, Bool.eq_iff_iff, decide_eq_true_eq, decide_eq_true_eq]
        exact ⟨fun e => Option.some.inj e, fun e => by rw [e]⟩
      rw [← this]
      exact q _ (k1.trans kp)
end
end My

set_option Elab.async false
set_option linter.all false
set_option maxRecDepth 100000
set_option maxHeartbeats 4000000
namespace My
open PySem L2 NdefX
/-! ### what some programs hold together: the mathematics -/
def keyH (zs : List Str) (h : Hd) : NestedKey := .tup ((nmH zs h).map NestedKey.text)
theorem text_inj : ∀ (x y : List Str), x.map NestedKey.text = y.map NestedKey.text → x = y
  | [], [], _ => rfl
  | [], _ :: _, h => by cases h
  | _ :: _, [], h => by cases h
  | a :: x, b :: y, h => by
    rw [List.map_cons, List.map_cons] at h
    injection h with h1 h2
    injection h1 with h1
    rw [h1, text_inj x y h2]
theorem keyH_inj {zs : List Str} (L : LkOk zs) {a b : Hd} (ha : below zs.length a) (hb : below zs.length b) (e : keyH zs a = keyH zs b) : a = b := by
  unfold keyH at e
  injection e with e
  exact (nmH_eq L ha hb).mp (text_inj _ _ e)
theorem nk_strs {H : Hp} : ∀ xs : List Str, NkAll H (xs.map V.str) (xs.map NestedKey.text)
  | [] => .nil
  | x :: r => .cons (.str x) (nk_strs r)
theorem text_dep (xs : List Str) : NestedKey.depthAll (xs.map NestedKey.text) ≤ 1 := by
  induction xs with
  | nil => simp [NestedKey.depthAll]
  | cons x r ih =>
    rw [List.map_cons]
    simp only [NestedKey.depthAll, NestedKey.depth]
    omega
theorem keyH_dep2 {zs : List Str} {h : Hd} : (keyH zs h).depth ≤ 2 := by
  unfold keyH
  have := text_dep (nmH zs h)
  simp only [NestedKey.depth]
  omega
theorem may_lt {n : Nat} {es : List En} {h : Hd} (hbe : ∀ e ∈ es, belowE n e) : ∀ r ∈ mayR es h, r < n := fun r hr => by
  unfold mayR at hr
  obtain ⟨e, he, rfl⟩ := List.mem_map.mp hr
  exact (hbe e (List.mem_filter.mp he).1).2
theorem may_mem {es : List En} {h : Hd} {r : Nat} : r ∈ mayR es h ↔ (h, r) ∈ es := by
  unfold mayR
  constructor
  · intro hr
    obtain ⟨e, he, rfl⟩ := List.mem_map.mp hr
    obtain ⟨he1, he2⟩ := List.mem_filter.mp he
    rw [← of_decide_eq_true he2]
    exact he1
  · exact fun he => List.mem_map.mpr ⟨(h, r), List.mem_filter.mpr ⟨he, by simp⟩, rfl⟩
abbrev Jt := List Hd
/-- a program, lock or free, and which -/
abbrev Stp := Nat × Bool × Nat
def hdJ (hs : Jt) (i : Nat) : Hd := hs.getD i []
def stepsJ (es : List En) (hs : Jt) (i : Nat) : List (Bool × Nat) := ((mayR es (hdJ hs i)).filter fun r => !decide (r ∈ hs.flatten)).map (fun r => (true, r)) ++ (hdJ hs i).map fun r => (false, r)
def goJ (n : Nat) (hs : Jt) (s : Stp) : Jt := hs.set s.1 (aftR n s.2.2 (hdJ hs s.1))
def OkJ (es : List En) (hs : Jt) (s : Stp) : Prop := s.1 < hs.length ∧ s.2 ∈ stepsJ es hs s.1
def wantJ (es : List En) (hs : Jt) (i : Nat) : List Nat := ((mayR es (hdJ hs i)).filter fun r => decide (r ∈ hdJ hs ((i + 1) % hs.length))).take 1
def wantsJ (es : List En) (hs : Jt) : List Nat := (List.range hs.length).flatMap (wantJ es hs)
def stuckJ (es : List En) (hs : Jt) : Bool := decide ((wantsJ es hs).length = hs.length)
inductive RchJ (n m : Nat) (es : List En) : Jt → Prop
  | zero : RchJ n m es (List.replicate m [])
  | step {hs : Jt} {s : Stp} (a : RchJ n m es hs) (k : OkJ es hs s) : RchJ n m es (goJ n hs s)
theorem ok_iff {es : List En} {hs : Jt} {i : Nat} {b : Bool} {r : Nat} : OkJ es hs (i, b, r) ↔ i < hs.length ∧ ((b = true ∧ (hdJ hs i, r) ∈ es ∧ r ∉ hs.flatten) ∨ (b = false ∧ r ∈ hdJ hs i)) := by
  unfold OkJ stepsJ
  simp only [List.mem_append, List.mem_map, List.mem_filter, Prod.mk.injEq, Bool.not_eq_true', decide_eq_false_iff_not, may_mem]
  constructor
  · rintro ⟨h, ⟨x, ⟨h1, h2⟩, rfl, rfl⟩ | ⟨x, h1, rfl, rfl⟩⟩
    · exact ⟨h, .inl ⟨rfl, h1, h2⟩⟩
    · exact ⟨h, .inr ⟨rfl, h1⟩⟩
  · rintro ⟨h, ⟨rfl, h1, h2⟩ | ⟨rfl, h1⟩⟩
    · exact ⟨h, .inl ⟨r, ⟨h1, h2⟩, rfl, rfl⟩⟩
    · exact ⟨h, .inr ⟨r, h1, rfl, rfl⟩⟩
theorem goJ_len {n : Nat} {hs : Jt} {s : Stp} : (goJ n hs s).length = hs.length := List.length_set
theorem hdJ_go {n : Nat} {hs : Jt} {s : Stp} {j : Nat} (h : s.1 < hs.length) : hdJ (goJ n hs s) j = if j = s.1 then aftR n s.2.2 (hdJ hs s.1) else hdJ hs j := by
  unfold hdJ goJ
  rw [List.getD_eq_getElem?_getD, List.getElem?_set]
  by_cases e : s.1 = j
  · subst e
    rw [if_pos rfl, if_pos h, if_pos rfl]
    rfl
  · rw [if_neg e, if_neg (fun z => e z.symm), List.getD_eq_getElem?_getD]
theorem hdJ_at {hs : Jt} {i : Nat} (h : i < hs.length) : hs[i]? = some (hdJ hs i) := by
  unfold hdJ
  rw [List.getD_eq_getElem?_getD, List.getElem?_eq_getElem h]
  rfl
theorem hdJ_mem {hs : Jt} {i : Nat} (h : i < hs.length) : hdJ hs i ∈ hs := List.mem_of_getElem? (hdJ_at h)
/-! all that can be held together -/
def univJ (n : Nat) : Nat → List Jt
  | 0 => [[]]
  | m + 1 => (hls n).flatMap fun h => (univJ n m).map fun hs => h :: hs
theorem mem_univ {n : Nat} : ∀ {m : Nat} {hs : Jt}, hs ∈ univJ n m ↔ hs.length = m ∧ ∀ h ∈ hs, h ∈ hls n
  | 0, hs => by
    show hs ∈ [[]] ↔ _
    rw [List.mem_singleton]
    constructor
    · rintro rfl
      exact ⟨rfl, fun _ h => nomatch h⟩
    · exact fun h => List.eq_nil_of_length_eq_zero h.1
  | m + 1, hs => by
    show hs ∈ (hls n).flatMap _ ↔ _
    rw [List.mem_flatMap]
    constructor
    · rintro ⟨h, hh, hm⟩
      obtain ⟨g, hg, rfl⟩ := List.mem_map.mp hm
      obtain ⟨e, k⟩ := mem_univ.mp hg
      exact ⟨by rw [List.length_cons, e], fun x hx => (List.mem_cons.mp hx).elim (fun z => z ▸ hh) (k x)⟩
    · rintro ⟨e, k⟩
      match hs, e, k with
      | h :: g, e, k =>
        exact ⟨h, k h List.mem_cons_self, List.mem_map.mpr ⟨g, mem_univ.mpr ⟨by simpa using e, fun x hx => k x (List.mem_cons_of_mem _ hx)⟩, rfl⟩⟩
def disJ (hs : Jt) : Bool := decide hs.flatten.Nodup
def allJ (n m : Nat) : List Jt := (univJ n m).filter disJ
theorem allJ_len0 : ∀ n, n < 4 → 1 ≤ n → ∀ m, m < 4 → (allJ n m).length ≤ 64 := by decide +kernel
def inJ (n m : Nat) (hs : Jt) : Bool := decide (hs.length = m) && hs.all (fun h => decide (h ∈ hls n)) && disJ hs
theorem inJ_iff {n m : Nat} {hs : Jt} : inJ n m hs = true ↔ hs ∈ allJ n m := by
  unfold inJ allJ
  rw [List.mem_filter, mem_univ, Bool.and_eq_true, Bool.and_eq_true, decide_eq_true_eq, List.all_eq_true]
  simp only [decide_eq_true_eq]
def okA (n m : Nat) : Bool := (allJ n m).all fun hs => (List.range m).all fun i => (List.range n).all fun r => (!decide (r ∈ hdJ hs i) && decide (r ∈ hs.flatten)) || inJ n m (goJ n hs (i, true, r))
theorem okA0 : ∀ n, n < 4 → 1 ≤ n → ∀ m, m < 4 → okA n m = true := by decide +kernel
theorem zeroA0 : ∀ n, n < 4 → 1 ≤ n → ∀ m, m < 4 → inJ n m (List.replicate m []) = true := by decide +kernel
theorem all_mem {n m : Nat} {hs : Jt} (h : hs ∈ allJ n m) : hs.length = m ∧ (∀ h ∈ hs, h ∈ hls n) ∧ hs.flatten.Nodup := by
  unfold allJ at h
  obtain ⟨h1, h2⟩ := List.mem_filter.mp h
  exact ⟨(mem_univ.mp h1).1, (mem_univ.mp h1).2, of_decide_eq_true h2⟩
theorem ok_lt {n m : Nat} {es : List En} (n3 : n < 4) (n1 : 1 ≤ n) (hes : es.Sublist (ens n)) {hs : Jt} (h : hs ∈ allJ n m) {s : Stp} (k : OkJ es hs s) : s.2.2 < n := by
  obtain ⟨i, b, r⟩ := s
  obtain ⟨h1, h2, h3⟩ := all_mem h
  obtain ⟨hi, (⟨_, he, _⟩ | ⟨_, hr⟩)⟩ := ok_iff.mp k
  · exact ((factE n3 n1).ent _ (hes.subset he)).1.2
  · exact ((factE n3 n1).hld _ (h2 _ (hdJ_mem hi))).1 r hr
theorem go_all {n m : Nat} {es : List En} (n3 : n < 4) (n1 : 1 ≤ n) (m3 : m < 4) (hes : es.Sublist (ens n)) {hs : Jt} (h : hs ∈ allJ n m) {s : Stp} (k : OkJ es hs s) : goJ n hs s ∈ allJ n m := by
  have rn := ok_lt n3 n1 hes h k
  obtain ⟨i, b, r⟩ := s
  obtain ⟨h1, h2, h3⟩ := all_mem h
  have hk := ok_iff.mp k
  have := okA0 n n3 n1 m m3
  unfold okA at this
  rw [List.all_eq_true] at this
  have := this hs h
  rw [List.all_eq_true] at this
  have := this i (List.mem_range.mpr (by rw [← h1]; exact hk.1))
  rw [List.all_eq_true] at this
  have := this r (List.mem_range.mpr rn)
  rw [Bool.or_eq_true, Bool.and_eq_true, Bool.not_eq_true', decide_eq_false_iff_not, decide_eq_true_eq] at this
  rcases this with ⟨a, b⟩ | c
  · rcases hk.2 with ⟨_, _, z⟩ | ⟨_, z⟩
    · exact absurd b z
    · exact absurd z a
  · exact inJ_iff.mp c
theorem rch_all {n m : Nat} {es : List En} (n3 : n < 4) (n1 : 1 ≤ n) (m3 : m < 4) (hes : es.Sublist (ens n)) {hs : Jt} (h : RchJ n m es hs) : hs ∈ allJ n m := by
  induction h with
  | zero => exact inJ_iff.mp (zeroA0 n n3 n1 m m3)
  | step a k ih => exact go_all n3 n1 m3 hes ih k
theorem rch_mono {n m : Nat} {es fs : List En} (s : ∀ e ∈ es, e ∈ fs) {hs : Jt} (h : RchJ n m es hs) : RchJ n m fs hs := by
  induction h with
  | zero => exact .zero
  | @step hs st a k ih =>
    obtain ⟨i, b, r⟩ := st
    refine .step ih (ok_iff.mpr ?_)
    obtain ⟨h1, (⟨h2, h3, h4⟩ | h2)⟩ := ok_iff.mp k
    · exact ⟨h1, .inl ⟨h2, s _ h3, h4⟩⟩
    · exact ⟨h1, .inr h2⟩
/-! stuck: each may take what the next one holds -/
theorem want_le {es : List En} {hs : Jt} {i : Nat} : (wantJ es hs i).length ≤ 1 := List.length_take_le _ _
theorem flat_le1 {f : Nat → List Nat} (h : ∀ i, (f i).length ≤ 1) : ∀ {l : List Nat}, (l.flatMap f).length ≤ l.length ∧ ((l.flatMap f).length = l.length → ∀ i ∈ l, (f i).length = 1)
  | [] => ⟨Nat.le_refl _, fun _ _ h => nomatch h⟩
  | x :: l => by
    obtain ⟨a, b⟩ := flat_le1 h (l := l)
    have := h x
    rw [List.flatMap_cons, List.length_append, List.length_cons]
    refine ⟨by omega, fun e i hi => ?_⟩
    rcases List.mem_cons.mp hi with rfl | hi
    · omega
    · exact b (by omega) i hi
theorem flat_one {f : Nat → List Nat} : ∀ {l : List Nat}, (∀ i ∈ l, (f i).length = 1) → (l.flatMap f).length = l.length
  | [], _ => rfl
  | x :: l, h => by
    rw [List.flatMap_cons, List.length_append, List.length_cons, h x List.mem_cons_self, flat_one fun i hi => h i (List.mem_cons_of_mem _ hi)]
    omega
theorem want_one {es : List En} {hs : Jt} {i : Nat} : (wantJ es hs i).length = 1 ↔ ∃ r, (hdJ hs i, r) ∈ es ∧ r ∈ hdJ hs ((i + 1) % hs.length) := by
  unfold wantJ
  rw [List.length_take]
  constructor
  · intro h
    obtain ⟨r, hr⟩ := List.exists_mem_of_length_pos (l := (mayR es (hdJ hs i)).filter fun r => decide (r ∈ hdJ hs ((i + 1) % hs.length))) (by omega)
    obtain ⟨h1, h2⟩ := List.mem_filter.mp hr
    exact ⟨r, may_mem.mp h1, of_decide_eq_true h2⟩
  · rintro ⟨r, h1, h2⟩
    have := List.length_pos_of_mem (List.mem_filter.mpr ⟨may_mem.mpr h1, decide_eq_true h2⟩ : r ∈ (mayR es (hdJ hs i)).filter fun r => decide (r ∈ hdJ hs ((i + 1) % hs.length)))
    omega
theorem stuck_iff {es : List En} {hs : Jt} : stuckJ es hs = true ↔ ∀ i, i < hs.length → ∃ r, (hdJ hs i, r) ∈ es ∧ r ∈ hdJ hs ((i + 1) % hs.length) := by
  unfold stuckJ wantsJ
  rw [decide_eq_true_eq]
  constructor
  · intro h i hi
    exact want_one.mp ((flat_le1 (f := wantJ es hs) (fun i => want_le)).2 (by rw [h, List.length_range]) i (List.mem_range.mpr hi))
  · intro h
    have := flat_one (f := wantJ es hs) (l := List.range hs.length) fun i hi => want_one.mpr (h i (List.mem_range.mp hi))
    rw [this, List.length_range]
theorem stuck_mono {es fs : List En} (s : ∀ e ∈ es, e ∈ fs) {hs : Jt} (h : stuckJ es hs = true) : stuckJ fs hs = true := stuck_iff.mpr fun i hi => by
  obtain ⟨r, h1, h2⟩ := stuck_iff.mp h i hi
  exact ⟨r, s _ h1, h2⟩
/-- at a stuck state each one's want stands at its place -/
theorem flat_get {f : Nat → List Nat} : ∀ {m : Nat}, (∀ i, i < m → (f i).length = 1) → ∀ i, i < m → ((List.range m).flatMap f)[i]? = (f i)[0]?
  | 0, _, i, hi => by omega
  | m + 1, h, i, hi => by
    have e := flat_one (f := f) (l := List.range m) fun i hi => h i (by have := List.mem_range.mp hi; omega)
    rw [List.length_range] at e
    rw [List.range_succ, List.flatMap_append, List.flatMap_singleton]
    by_cases lt : i < m
    · rw [List.getElem?_append_left (by omega)]
      exact flat_get (fun i hi => h i (by omega)) i lt
    · have : i = m := by omega
      subst this
      rw [List.getElem?_append_right (by omega), e, Nat.sub_self]
theorem wants_at {es : List En} {hs : Jt} (h : stuckJ es hs = true) {i : Nat} (hi : i < hs.length) : ∃ r, (wantsJ es hs)[i]? = some r ∧ (hdJ hs i, r) ∈ es ∧ r ∈ hdJ hs ((i + 1) % hs.length) := by
  have h1 : ∀ i, i < hs.length → (wantJ es hs i).length = 1 := fun i hi => want_one.mpr (stuck_iff.mp h i hi)
  have := flat_get h1 i hi
  have l1 := h1 i hi
  have e0 : (wantJ es hs i)[0]? = some (wantJ es hs i)[0] := List.getElem?_eq_getElem (by omega)
  refine ⟨_, this.trans e0, ?_⟩
  have hm := List.mem_of_mem_take (List.mem_of_getElem? e0)
  obtain ⟨a, b⟩ := List.mem_filter.mp hm
  exact ⟨may_mem.mp a, of_decide_eq_true b⟩
theorem wants_mem {es : List En} {hs : Jt} {r : Nat} (h : r ∈ wantsJ es hs) : ∃ i, i < hs.length ∧ (hdJ hs i, r) ∈ es := by
  unfold wantsJ at h
  obtain ⟨i, hi, hr⟩ := List.mem_flatMap.mp h
  obtain ⟨a, b⟩ := List.mem_filter.mp (List.mem_of_mem_take hr)
  exact ⟨i, List.mem_range.mp hi, may_mem.mp a⟩
end My

set_option Elab.async false
set_option linter.all false
set_option maxRecDepth 100000
set_option maxHeartbeats 4000000
namespace My
open PySem L2 NdefX
/-! ### the search of a circle: what was found, and from what -/
abbrev Bk := Jt × Option (Jt × Stp)
abbrev keysB (B : List Bk) : List Jt := B.map (·.1)
def addB (n : Nat) (hs : Jt) (B : List Bk) (s : Stp) : List Bk := if goJ n hs s ∈ keysB B then B else B ++ [(goJ n hs s, some (hs, s))]
def nextJ (es : List En) (hs : Jt) (i : Nat) : List Stp := (stepsJ es hs i).map fun x => (i, x)
def nextsJ (es : List En) (hs : Jt) : List Stp := (List.range hs.length).flatMap (nextJ es hs)
def lookB (n : Nat) (es : List En) (hs : Jt) (B : List Bk) : List Bk := (nextsJ es hs).foldl (addB n hs) B
theorem nexts_ok {es : List En} {hs : Jt} {s : Stp} : s ∈ nextsJ es hs ↔ OkJ es hs s := by
  unfold nextsJ nextJ OkJ
  rw [List.mem_flatMap]
  constructor
  · rintro ⟨i, hi, h⟩
    obtain ⟨x, hx, rfl⟩ := List.mem_map.mp h
    exact ⟨List.mem_range.mp hi, hx⟩
  · rintro ⟨h1, h2⟩
    exact ⟨s.1, List.mem_range.mpr h1, List.mem_map.mpr ⟨s.2, h2, rfl⟩⟩
/-- the table tells from what each was found -/
structure GB (n m : Nat) (es : List En) (B : List Bk) : Prop where
  head : B[0]? = some (List.replicate m [], none)
  nd : (keysB B).Nodup
  back : ∀ (j : Nat) (g hs : Jt) (s : Stp), B[j]? = some (g, some (hs, s)) → ∃ i, i < j ∧ (keysB B)[i]? = some hs ∧ OkJ es hs s ∧ g = goJ n hs s
  none : ∀ (j : Nat) (g : Jt), B[j]? = some (g, none) → j = 0
theorem gb_first {n m : Nat} {es : List En} : GB n m es [(List.replicate m [], none)] := by
  refine ⟨rfl, by show [List.replicate m []].Nodup; simp, fun j g hs s h => ?_, fun j g h => ?_⟩
  · match j, h with
    | 0, h => cases h
    | j + 1, h => cases h
  · match j, h with
    | 0, h => rfl
    | j + 1, h => cases h
theorem keys_get {B : List Bk} {i : Nat} {hs : Jt} : (keysB B)[i]? = some hs ↔ ∃ x, B[i]? = some (hs, x) := by
  unfold keysB
  rw [List.getElem?_map]
  cases B[i]? with
  | none => simp
  | some b =>
    obtain ⟨g, x⟩ := b
    simp
theorem gb_add {n m : Nat} {es : List En} {B : List Bk} {hs : Jt} {s : Stp} (G : GB n m es B) (h : hs ∈ keysB B) (k : OkJ es hs s) : GB n m es (addB n hs B s) := by
  unfold addB
  split
  · exact G
  · rename_i nm
    have l0 : 0 < B.length := by
      cases B with
      | nil => cases h
      | cons _ _ => simp
    have sp : ∀ (j : Nat) (b : Bk), (B ++ [(goJ n hs s, some (hs, s))])[j]? = some b → B[j]? = some b ∨ (j = B.length ∧ b = (goJ n hs s, some (hs, s))) := fun j b e => by
      by_cases lt : j < B.length
      · rw [List.getElem?_append_left lt] at e
        exact .inl e
      · rw [List.getElem?_append_right (by omega)] at e
        have : j - B.length = 0 := by
          have := (List.getElem?_eq_some_iff.mp e).1
          simp at this
          omega
        rw [this] at e
        exact .inr ⟨by omega, (Option.some.inj e).symm⟩
    refine ⟨by rw [List.getElem?_append_left l0]; exact G.head, ?_, fun j g hs' s' e => ?_, fun j g e => ?_⟩
    · unfold keysB
      rw [List.map_append]
      refine List.nodup_append.mpr ⟨G.nd, by simp, fun a ha b hb e => nm ?_⟩
      have : b = goJ n hs s := by simpa using hb
      rw [← this, ← e]
      exact ha
    · rcases sp j _ e with e | ⟨ej, e⟩
      · obtain ⟨i, hi, h1, h2⟩ := G.back _ _ _ _ e
        refine ⟨i, hi, ?_, h2⟩
        unfold keysB at h1 ⊢
        rw [List.map_append, List.getElem?_append_left (List.getElem?_eq_some_iff.mp h1).1]
        exact h1
      · cases e
        obtain ⟨i, hi⟩ := List.getElem?_of_mem h
        have il : i < B.length := by
          have := (List.getElem?_eq_some_iff.mp hi).1
          simpa [keysB] using this
        refine ⟨i, by omega, ?_, k, rfl⟩
        unfold keysB at hi ⊢
        rw [List.map_append, List.getElem?_append_left (by simpa using il)]
        exact hi
    · rcases sp j _ e with e | ⟨ej, e⟩
      · exact G.none _ _ e
      · cases e
theorem add_pre {n : Nat} {hs : Jt} {B : List Bk} {s : Stp} {j : Nat} {b : Bk} (h : B[j]? = some b) : (addB n hs B s)[j]? = some b := by
  unfold addB
  split
  · exact h
  · rw [List.getElem?_append_left (List.getElem?_eq_some_iff.mp h).1]
    exact h
theorem add_sub {n : Nat} {hs : Jt} {B : List Bk} {s : Stp} {g : Jt} (h : g ∈ keysB B) : g ∈ keysB (addB n hs B s) := by
  obtain ⟨i, hi⟩ := List.getElem?_of_mem h
  obtain ⟨x, hx⟩ := keys_get.mp hi
  exact List.mem_of_getElem? (keys_get.mpr ⟨x, add_pre hx⟩)
theorem add_has {n : Nat} {hs : Jt} {B : List Bk} {s : Stp} : goJ n hs s ∈ keysB (addB n hs B s) := by
  unfold addB
  split
  · assumption
  · unfold keysB
    rw [List.map_append]
    simp
theorem fold_gb {n m : Nat} {es : List En} {hs : Jt} : ∀ {ss : List Stp} {B : List Bk}, GB n m es B → hs ∈ keysB B → (∀ s ∈ ss, OkJ es hs s) → GB n m es (ss.foldl (addB n hs) B) ∧ (∀ (j : Nat) (b : Bk), B[j]? = some b → (ss.foldl (addB n hs) B)[j]? = some b) ∧ (∀ g ∈ keysB B, g ∈ keysB (ss.foldl (addB n hs) B)) ∧ ∀ s ∈ ss, goJ n hs s ∈ keysB (ss.foldl (addB n hs) B)
  | [], B, G, h, k => ⟨G, fun _ _ h => h, fun _ h => h, fun _ h => nomatch h⟩
  | s :: ss, B, G, h, k => by
    obtain ⟨a, b, c, d⟩ := fold_gb (ss := ss) (gb_add G h (k s List.mem_cons_self)) (add_sub h) fun x hx => k x (List.mem_cons_of_mem _ hx)
    refine ⟨a, fun j b' e => b j b' (add_pre e), fun g hg => c g (add_sub hg), fun x hx => ?_⟩
    rcases List.mem_cons.mp hx with rfl | hx
    · exact c _ add_has
    · exact d x hx
/-- what was looked at is not stuck, and what is one step behind it was found -/
def CloB (n : Nat) (es : List En) (B : List Bk) (a : Nat) : Prop := ∀ (i : Nat), i < a → ∀ (hs : Jt) (x : Option (Jt × Stp)), B[i]? = some (hs, x) → stuckJ es hs = false ∧ ∀ s, OkJ es hs s → goJ n hs s ∈ keysB B
theorem look_gb {n m : Nat} {es : List En} {B : List Bk} {a : Nat} {hs : Jt} {x : Option (Jt × Stp)} (G : GB n m es B) (c : CloB n es B a) (e : B[a]? = some (hs, x)) (ns : stuckJ es hs = false) : GB n m es (lookB n es hs B) ∧ CloB n es (lookB n es hs B) (a + 1) ∧ ∀ (j : Nat) (b : Bk), B[j]? = some b → (lookB n es hs B)[j]? = some b := by
  have hm : hs ∈ keysB B := List.mem_of_getElem? (keys_get.mpr ⟨x, e⟩)
  obtain ⟨g1, g2, g3, g4⟩ := fold_gb (n := n) (m := m) (es := es) (hs := hs) (ss := nextsJ es hs) G hm fun s h => nexts_ok.mp h
  refine ⟨g1, fun i hi hs' x' e' => ?_, g2⟩
  by_cases lt : i < a
  · have : i < B.length := by have := (List.getElem?_eq_some_iff.mp e).1; omega
    have eb := List.getElem?_eq_getElem this
    have := g2 i _ eb
    have e2 := e'.symm.trans this
    have e3 : B[i]? = some (hs', x') := by rw [eb, ← Option.some.inj e2]
    obtain ⟨c1, c2⟩ := c i lt hs' x' e3
    exact ⟨c1, fun s k => g3 _ (c2 s k)⟩
  · have : i = a := by omega
    subst this
    have e2 := e'.symm.trans (g2 i _ e)
    cases e2
    exact ⟨ns, fun s k => g4 s (nexts_ok.mpr k)⟩
theorem gb_rch {n m : Nat} {es : List En} {B : List Bk} (G : GB n m es B) : ∀ (j : Nat) {hs : Jt}, (keysB B)[j]? = some hs → RchJ n m es hs := by
  intro j
  induction j using Nat.strongRecOn with
  | ind j ih =>
    intro hs h
    obtain ⟨x, hx⟩ := keys_get.mp h
    cases x with
    | none =>
      have := G.none _ _ hx
      subst this
      rw [G.head] at hx
      cases hx
      exact .zero
    | some p =>
      obtain ⟨hs', s⟩ := p
      obtain ⟨i, hi, h1, h2, rfl⟩ := G.back _ _ _ _ hx
      exact .step (ih i hi h1) h2
theorem gb_mem {n m : Nat} {es : List En} {B : List Bk} (G : GB n m es B) {hs : Jt} (h : hs ∈ keysB B) : RchJ n m es hs := by
  obtain ⟨i, hi⟩ := List.getElem?_of_mem h
  exact gb_rch G i hi
theorem gb_len {n m : Nat} {es : List En} {B : List Bk} (n3 : n < 4) (n1 : 1 ≤ n) (m3 : m < 4) (hes : es.Sublist (ens n)) (G : GB n m es B) : B.length ≤ 64 := by
  have := nodup_lenP G.nd fun x hx => rch_all n3 n1 m3 hes (gb_mem G hx)
  have h2 := allJ_len0 n n3 n1 m m3
  unfold keysB at this
  rw [List.length_map] at this
  omega
/-- where all were looked at, all that can be reached was -/
theorem fin_gb {n m : Nat} {es : List En} {B : List Bk} {a : Nat} (G : GB n m es B) (c : CloB n es B a) (ha : B.length ≤ a) {hs : Jt} (h : RchJ n m es hs) : stuckJ es hs = false := by
  have : hs ∈ keysB B := by
    induction h with
    | zero => exact List.mem_of_getElem? (keys_get.mpr ⟨_, G.head⟩)
    | step k ok ih =>
      obtain ⟨i, hi⟩ := List.getElem?_of_mem ih
      obtain ⟨x, hx⟩ := keys_get.mp hi
      exact (c i (by have := (List.getElem?_eq_some_iff.mp hx).1; omega) _ _ hx).2 _ ok
  obtain ⟨i, hi⟩ := List.getElem?_of_mem this
  obtain ⟨x, hx⟩ := keys_get.mp hi
  exact (c i (by have := (List.getElem?_eq_some_iff.mp hx).1; omega) _ _ hx).1
/-- a way by allowed steps -/
def PthJ (n : Nat) (es : List En) : Jt → List Stp → Jt → Prop
  | a, [], b => a = b
  | a, s :: p, b => OkJ es a s ∧ PthJ n es (goJ n a s) p b
theorem pth_snoc {n : Nat} {es : List En} {s : Stp} : ∀ {p : List Stp} {a b : Jt}, PthJ n es a (p ++ [s]) b ↔ ∃ c, PthJ n es a p c ∧ OkJ es c s ∧ b = goJ n c s
  | [], a, b => by
    constructor
    · rintro ⟨h, e⟩
      exact ⟨a, rfl, h, e.symm⟩
    · rintro ⟨c, rfl, h, e⟩
      exact ⟨h, e.symm⟩
  | t :: p, a, b => by
    show OkJ es a t ∧ PthJ n es (goJ n a t) (p ++ [s]) b ↔ _
    rw [pth_snoc]
    constructor
    · rintro ⟨h, c, h1, h2⟩
      exact ⟨c, ⟨h, h1⟩, h2⟩
    · rintro ⟨c, ⟨h, h1⟩, h2⟩
      exact ⟨h, c, h1, h2⟩
theorem pth_len {n : Nat} {es : List En} : ∀ {p : List Stp} {a b : Jt}, PthJ n es a p b → b.length = a.length
  | [], a, b, h => by
    have h : a = b := h
    rw [h]
  | s :: p, a, b, h => (pth_len h.2).trans goJ_len
theorem pth_take {n : Nat} {es : List En} : ∀ {p : List Stp} {a b : Jt} (i : Nat), PthJ n es a p b → ∃ c, PthJ n es a (p.take i) c ∧ PthJ n es c (p.drop i) b
  | p, a, b, 0, h => ⟨a, rfl, h⟩
  | [], a, b, i + 1, h => ⟨a, rfl, h⟩
  | s :: p, a, b, i + 1, h => by
    obtain ⟨c, h1, h2⟩ := pth_take i h.2
    exact ⟨c, ⟨h.1, h1⟩, h2⟩
theorem pth_rch {n m : Nat} {es : List En} : ∀ {p : List Stp} {a b : Jt}, PthJ n es a p b → RchJ n m es a → RchJ n m es b
  | [], a, b, h, r => by
    have h : a = b := h
    rw [← h]; exact r
  | s :: p, a, b, h, r => pth_rch h.2 (.step r h.1)
/-- the steps of one program -/
def prgJ (p : List Stp) (i : Nat) : List (Bool × Nat) := (p.filter fun s => decide (s.1 = i)).map (·.2)
end My

set_option Elab.async false
set_option linter.all false
set_option maxRecDepth 100000
set_option maxHeartbeats 4000000
namespace My
open PySem L2 NdefX
abbrev s_Circle_init : Stmt := mtop 24 0
theorem sc_Circle_init : FnScope ["self", "rule", "many", "first", "_", "at"] ["self", "rule", "many"] (defScope s_Circle_init) := ⟨rfl, rfl, rfl, by decide +kernel, rfl, by decide +kernel, by decide +kernel⟩
abbrev s_Circle_look : Stmt := mtop 24 1
theorem sc_Circle_look : FnScope ["self", "helds", "taken", "held", "name", "at", "steps", "step", "goal"] ["self", "helds"] (defScope s_Circle_look) := ⟨rfl, rfl, rfl, by decide +kernel, rfl, by decide +kernel, by decide +kernel⟩
abbrev s_Circle_wants_at : Stmt := mtop 24 2
theorem sc_Circle_wants_at : FnScope ["self", "helds", "wants", "at", "held", "following", "name"] ["self", "helds"] (defScope s_Circle_wants_at) := ⟨rfl, rfl, rfl, by decide +kernel, rfl, by decide +kernel, by decide +kernel⟩
abbrev s_Circle_ring : Stmt := mtop 24 3
theorem sc_Circle_ring : FnScope ["self", "programs", "_", "order", "helds", "at", "step", "steps"] ["self"] (defScope s_Circle_ring) := ⟨rfl, rfl, rfl, by decide +kernel, rfl, by decide +kernel, by decide +kernel⟩
/-! ### what programs hold together, in the heap; a circle -/
/-- v is the tuple of what each holds -/
def JT (zs : List Str) (H : Hp) (v : V) (hs : Jt) : Prop := ∃ a us, v = .ref a ∧ H a = some (.tup us) ∧ Rw (HT zs H) us hs
theorem JT.tp {zs : List Str} {H H' : Hp} {v : V} {hs : Jt} (h : JT zs H v hs) (t : Tp H H') : JT zs H' v hs := by
  obtain ⟨a, us, e, h, r⟩ := h
  exact ⟨a, us, e, t _ _ h, r.mono fun _ _ z => HT.tp z t⟩
def keyJ (zs : List Str) (hs : Jt) : NestedKey := .tup (hs.map (keyH zs))
theorem HT.nk {zs : List Str} {H : Hp} {v : V} {h : Hd} (a : HT zs H v h) : NkAt H v (keyH zs h) := by
  obtain ⟨p, rfl, hp⟩ := a
  exact .tup hp (nk_strs _)
theorem rw_nk {zs : List Str} {H : Hp} : ∀ {us : List V} {hs : Jt}, Rw (HT zs H) us hs → NkAll H us (hs.map (keyH zs))
  | us, [], r => by rw [r.isNil]; exact .nil
  | us, h :: hs, r => by
    obtain ⟨u, t, rfl, e, r'⟩ := r.ex
    exact .cons e.nk (rw_nk r')
theorem keyJ_dep {zs : List Str} {hs : Jt} : (keyJ zs hs).depth ≤ 8 := by
  unfold keyJ
  have : NestedKey.depthAll (hs.map (keyH zs)) ≤ 2 := by
    induction hs with
    | nil => simp [NestedKey.depthAll]
    | cons x r ih =>
      have := keyH_dep2 (zs := zs) (h := x)
      rw [List.map_cons]
      simp only [NestedKey.depthAll]
      omega
  simp only [NestedKey.depth]
  omega
theorem JT.key {zs : List Str} {H : Hp} {v : V} {hs : Jt} (a : JT zs H v hs) : NKey H v (keyJ zs hs) := by
  obtain ⟨p, us, rfl, hp, r⟩ := a
  exact ⟨p, rfl, .tup hp (rw_nk r), keyJ_dep⟩
def belowJ (n : Nat) (hs : Jt) : Prop := ∀ h ∈ hs, below n h
theorem keyJ_inj {zs : List Str} (L : LkOk zs) : ∀ {a b : Jt}, belowJ zs.length a → belowJ zs.length b → keyJ zs a = keyJ zs b → a = b := by
  have : ∀ {a b : Jt}, belowJ zs.length a → belowJ zs.length b → a.map (keyH zs) = b.map (keyH zs) → a = b := fun {a} => by
    induction a with
    | nil => intro b _ _ h; cases b with
      | nil => rfl
      | cons _ _ => cases h
    | cons x a ih => intro b ha hb h; cases b with
      | nil => cases h
      | cons y b =>
        rw [List.map_cons, List.map_cons] at h
        injection h with h1 h2
        rw [keyH_inj L (ha x List.mem_cons_self) (hb y List.mem_cons_self) h1, ih (fun z h => ha z (List.mem_cons_of_mem _ h)) (fun z h => hb z (List.mem_cons_of_mem _ h)) h2]
  intro a b ha hb e
  unfold keyJ at e
  injection e with e
  exact this ha hb e
theorem all_below {n m : Nat} (n3 : n < 4) (n1 : 1 ≤ n) {hs : Jt} (h : hs ∈ allJ n m) : belowJ n hs := fun x hx => ((factE n3 n1).hld x ((all_mem h).2.1 x hx)).1
/-- a step of a program: lock or free, and a place -/
abbrev St2 := Bool × Nat
def wdS (b : Bool) : Str := if b then lockW else freeW
def stD (zs : List Str) (x : St2) : PyData := .tuple [.str (wdS x.1), .str (nmL zs x.2)]
def SDt (zs : List Str) (H : Hp) (v : V) (x : St2) : Prop := ∃ a, v = .ref a ∧ H a = some (.tup [.str (wdS x.1), .str (nmL zs x.2)])
theorem SDt.tp {zs : List Str} {H H' : Hp} {v : V} {x : St2} (h : SDt zs H v x) (t : Tp H H') : SDt zs H' v x := by
  obtain ⟨a, e, h⟩ := h
  exact ⟨a, e, t _ _ h⟩
theorem SDt.dq {zs : List Str} {H : Hp} {v : V} {x : St2} (h : SDt zs H v x) : Dq H v (stD zs x) := by
  obtain ⟨a, rfl, h⟩ := h
  exact .tup h (.cons (.str _) (.cons (.str _) .nil))
/-- from what it was found -/
def BV (zs : List Str) (H : Hp) (v : V) : Option (Jt × Stp) → Prop
  | none => v = .non
  | some (hs, i, x) => ∃ a u t, v = .ref a ∧ H a = some (.tup [u, .int (i : Nat), t]) ∧ JT zs H u hs ∧ SDt zs H t x
theorem BV.tp {zs : List Str} {H H' : Hp} {v : V} {x : Option (Jt × Stp)} (h : BV zs H v x) (t : Tp H H') : BV zs H' v x := by
  match x, h with
  | none, h => exact h
  | some (hs, i, x), ⟨a, u, t', e, h1, h2, h3⟩ => exact ⟨a, u, t', e, t _ _ h1, h2.tp t, h3.tp t⟩
/-- the state at which it was stuck -/
def SV (zs : List Str) (H : Hp) (v : V) : Option Jt → Prop
  | none => v = .non
  | some hs => JT zs H v hs
theorem SV.tp {zs : List Str} {H H' : Hp} {v : V} {x : Option Jt} (h : SV zs H v x) (t : Tp H H') : SV zs H' v x := by
  match x, h with
  | none, h => exact h
  | some hs, h => exact JT.tp h t
structure CiC (K : PySem.W.Frag) (mg : Str → Option Value) (CC : Addr) : Prop where
  k : mg "Circle" = some (.ref CC)
  cl : Cls K CC
  n1 : NoAttr K CC "_rule"
  n2 : NoAttr K CC "_locks"
  n3 : NoAttr K CC "_found"
  n4 : NoAttr K CC "_back"
  n5 : NoAttr K CC "stuck_at"
structure BtC (mg : Str → Option Value) : Prop where
  b_len : mg "len" = none
  b_enumerate : mg "enumerate" = none
  b_tuple : mg "tuple" = none
  b_range : mg "range" = none
/-- where a circle's parts stand -/
structure CirP where
  dx : Addr
  ro : Addr
  ll : Addr
  fl : Addr
  bl : Addr
  f0 : List (Str × V)
/-- at o a circle over the rule at ro: what was found, what it was found from, and where it is stuck; Hb is the heap ahead of its list and its dict -/
structure CiAt (P : Program) (w : World) (RC CC : Addr) (c : CirP) (Hb H : Hp) (o : Addr) (zs : List Str) (es : List En) (B : List Bk) (st : Option Jt) : Prop where
  bo : Hb o = some (.ins CC c.dx c.f0)
  ru : RuAt RC Hb c.ro zs es
  lk : Hb c.ll = some (.lst (zs.map V.str))
  bf : Hb c.fl = none
  bb : Hb c.bl = none
  ne : c.fl ≠ c.bl
  kp : Kp [o] Hb H
  ob : ∃ sv, H o = some (.ins CC c.dx [("_rule", .ref c.ro), ("_locks", .ref c.ll), ("_found", .ref c.fl), ("_back", .ref c.bl), ("stuck_at", sv)]) ∧ SV zs H sv st
  fd : ∃ us, H c.fl = some (.lst us) ∧ Rw (JT zs H) us (keysB B)
  bk : ∃ kvs, DnAt P w H c.bl kvs ∧ kvs.map (·.1) = (keysB B).map (keyJ zs) ∧ Rw (BV zs H) (kvs.map (·.2)) (B.map (·.2))
theorem CiAt.mv {P : Program} {w : World} {RC CC : Addr} {c : CirP} {Hb H H' : Hp} {o : Addr} {zs : List Str} {es : List En} {B : List Bk} {st : Option Jt} (h : CiAt P w RC CC c Hb H o zs es B st) (k : Kp [] H H') : CiAt P w RC CC c Hb H' o zs es B st := by
  obtain ⟨h1, h2, h3, h4, h5, h6, h7, ⟨sv, h8, h9⟩, ⟨us, h10, h11⟩, ⟨kvs, h12, h13, h14⟩⟩ := h
  exact ⟨h1, h2, h3, h4, h5, h6, h7.trans k.of0, ⟨sv, k _ _ not0 h8, h9.tp k.tps⟩, ⟨us, k _ _ not0 h10, h11.mono fun _ _ z => z.tp k.tps⟩, ⟨kvs, dn_kp h12 k, h13, h14.mono fun _ _ z => z.tp k.tps⟩⟩
theorem ru_of {RC CC : Addr} {Hb H : Hp} {o dx ro : Addr} {f0 : List (Str × V)} {zs : List Str} {es : List En} (h : RuAt RC Hb ro zs es) (ho : Hb o = some (.ins CC dx f0)) (ne : CC ≠ RC) (k : Kp [o] Hb H) : RuAt RC H ro zs es := by
  obtain ⟨dx', l, m, us, h1, h2, h3, h4, h5, h6⟩ := h
  exact ⟨dx', l, m, us, k _ _ (not1 fun z => by rw [z, ho] at h1; cases h1; exact ne rfl) h1, k _ _ (not1 fun z => by rw [z, ho] at h2; cases h2) h2, k _ _ (not1 fun z => by rw [z, ho] at h3; cases h3) h3, h4.mono fun _ _ z => z.tp (k.tpsI ho), h5, h6⟩
theorem may_len {n : Nat} {es : List En} (E : EnOk n) (hes : es.Sublist (ens n)) {h : Hd} : (mayR es h).length ≤ 12 := by
  unfold mayR
  rw [List.length_map]
  exact Nat.le_trans (List.length_filter_le _ _) (Nat.le_trans hes.length_le E.len)
section
variable {P : Program} {w : World} {K : PySem.W.Frag} {mg : Str → Option Value} {base : Heap} {RC CC : Addr}
theorem nth_i {m : Nat} (hm : 1 ≤ m) (i : Nat) : ((i : Int) + 1) % (m : Nat) = (((i + 1) % m : Nat) : Int) := by
  rw [Int.natCast_emod]
  rfl
def spWants (P : Program) (w : World) (RC CC : Addr) : Sp := fun vs H Q _ => ∃ (o : Addr) (u : V) (c : CirP) (Hb : Hp) (zs : List Str) (es : List En) (B : List Bk) (st : Option Jt) (hs : Jt), vs = [.ref o, u] ∧ CiAt P w RC CC c Hb H o zs es B st ∧ JT zs H u hs ∧ (∀ h ∈ hs, h ∈ hls zs.length) ∧ 1 ≤ hs.length ∧ hs.length ≤ 3 ∧
  ∀ l H', H l = none → H' l = some (.lst ((nmH zs (wantsJ es hs)).map V.str)) → Kp [] H H' → Q (.ref l) H'
theorem ok_Circle_wants_at {f : Addr} {fd : FuncData} (F : Fun K "wants_at" "Circle.wants_at" s_Circle_wants_at f fd) (T : BtC mg) (C : CiC K mg CC) (RR : RuC K mg RC) (ne : CC ≠ RC)
    {fg : Addr} {fdg : FuncData} (GT_Rule : GetC K RC fg) (G_Rule_getitem : FnOk P w K mg base CX0 3 fg fdg ["self", "at"] (spRuG RC)) (b_Rule_getitem : Binds K fdg ["self", "at"] []) :
    FnOk P w K mg base CX0 5 f fd ["self", "helds"] (spWants P w RC CC) := by
  refine F.ok sc_Circle_wants_at (fun vs H Q E h => ?_) (fun cdv A outer s H vs Q E hr h => ?_)
  · obtain ⟨_, _, _, _, _, _, _, _, _, rfl, _⟩ := h
    rfl
  · obtain ⟨o, u, cp, Hb, zs, es, B, st, hs, rfl, hC, ⟨ua, hus, rfl, hua, hru⟩, hh, m1, m3, q⟩ := h
    have hu := hu_of hr
    obtain ⟨sv, ho, _⟩ := hC.ob
    obtain ⟨_, _, _, _, _, _, _, _, L, hes⟩ := id hC.ru
    have EO := factE (n := zs.length) (by have := L.le; omega) L.pos
    have hR1 := ru_of hC.ru hC.bo ne hC.kp
    refine ⟨_, (pss_cons (ps_set (i := 2) sc_Circle_wants_at.nd rfl (Or.inl rfl) (pe_lst pa_nil))
      (pss_cons (ps_for PassesOwn.never rfl (pi_enumT rfl T.b_enumerate (pa_cons (pv 1) pa_nil)) (pg_tup (n := 2) (by rfl) (pgs_cons (pg_name (i := 3) sc_Circle_wants_at.nd rfl (Or.inl rfl)) (pgs_cons (pg_name (i := 4) sc_Circle_wants_at.nd rfl (Or.inl rfl)) pgs_nil))) (pss_cons (ps_set (i := 5) sc_Circle_wants_at.nd rfl (Or.inr rfl) (pe_ix (r := rIxT K) ix_tup (pv 1) (pe_op op_mod (pe_op op_add (pv 3) pe_int) (pe_callB (id := "len") (r := Evl.rLenS K) call_len_seq (by rfl) T.b_len PySem.boot_len (pa_cons (pv 1) pa_nil))) (fun _ _ => rfl)))
      (pss_one (ps_expr (pe_bm PySem.F.plainAttrs_list PySem.F.slot_list_extend PySem.F.type_list_extend mt_extend (pv 2) (pa_cons (pe_slice sl_list (pe_lc (own := [("name", 6)]) (g := (gName 6)) rfl sc_Circle_wants_at.nd (pi_list (pe_getO GT_Rule G_Rule_getitem b_Rule_getitem (hr.mono (by decide)) pass0 (pe_fld (pv 0) rfl) (pv 4))) (blkOk_by (N := ["self", "helds", "wants", "at", "held", "following", "name"]) (sc := defScope s_Circle_wants_at) (by decide +kernel)) (fun _ _ _ _ _ => (pg_name (i := 6) sc_Circle_wants_at.nd rfl (Or.inl rfl))) (fun _ _ _ _ _ => (pts_one (pt_cmpR (r := rIn K false) op_in_seq (pv 6) (pv 5) (by rfl)))) (fun _ _ _ _ _ => (pv 6))) po_none (po_some pe_int)) pa_nil))))))
      (pss_one (ps_ret (pv 2))))), ?_⟩
    try simp (maxSteps := 1000000) only [tSeq, tIfS, tTest, tOp, tUn, tCB, tCons, tNil, tVar, tC, rI0, rI, rU, rEq, rNe, tRet, tRetN, tAsg, gName, gSub, tBM, tBM0, tNext, tB, tNot, tAnd, tOr, tIf, tCall, tDrop, tBreak, tCont, L2.start, tDGet, sDPut, tTup, tLst, tDNewK, tRevL, rCat, rAppend, rPop, rSetL, tAndV, tOrV, tNotV, tSl, tPart, tNoPart, tM1, gTup, gCons, gNil, cxK, cxnK, List.map_cons, List.map_nil, List.length_cons, List.length_nil, List.replicate, List.cons_append, List.nil_append, List.append_nil, List.set_cons_zero, List.set_cons_succ, List.getElem?_cons_zero, List.getElem?_cons_succ, Option.some.injEq, V.ref.injEq, V.int.injEq, V.str.injEq, V.bl.injEq, V.ty.injEq, exists_eq_left', exists_eq_left, exists_and_left, List.cons.injEq, and_true, true_and, sc_ii, sc_ss, sc_bb, sc_ni, sc_in, sc_is, sc_si, sc_nn, decide_true, decide_false, reduceCtorEq, Bool.false_eq_true, if_true, if_false, ite_true, ite_false, exists_const, eq_self, false_and, and_false, or_false, false_or, exists_false, Evl.rLenS, rSum, wipe, tYes, exists_eq, exists_eq', rIxL, rIxT, rIxS, exists_and_right, gt_iff_lt, not_true_eq_false, not_false_eq_true, Bool.not_true, Bool.not_false, decide_eq_true_eq, Nat.reduceSub, Nat.reduceAdd, List.append_assoc, tChain, tDIn, tDNotIn, sDDel, tAug, ipI, rInt1_int, rInt1_bl, tFld]
    refine ⟨Nat.zero_le _, fun p np => ?_⟩
    have k0 := (Kp.new np : Kp [] H (upd H p (.lst [])))
    have hp0 : (upd H p (.lst [])) p = some (.lst []) := upd_same
    generalize upd H p (.lst []) = H0 at k0 hp0 ⊢
    have tu : ∀ H', Kp [] H H' → SqT K H' ua hus := fun H' k => sq_t (k _ _ not0 hua)
    have lus := hru.len
    refine ⟨.ref ua, rfl, ua, _, rfl, tu _ k0, for_it (walk_enumT (K := K) (a := ua) (xs := hus)) (fun i σ H' => ∃ c3 c4 c5 c6, σ = [some (.ref o), some (.ref ua), some (.ref p), c3, c4, c5, c6] ∧ H' p = some (.lst ((nmH zs ((List.range i).flatMap (wantJ es hs))).map V.str)) ∧ Kp [] H H') ⟨_, _, _, _, rfl, hp0, k0⟩ (fun i σ H' _ h => by obtain ⟨_, _, _, _, _, _, k⟩ := h; exact tu _ k) ?_ ?_⟩
    · rintro i x σ H1 H2 hi ⟨c3, c4, c5, c6, rfl, hp1, k1⟩ ⟨T0, x1, x2, rfl, hT, rfl, hx1, hx2⟩
      cases hx1
      rw [lus] at hi
      obtain ⟨v, ev, hv⟩ := hru.at (hdJ_at hi)
      have e2 : x2 = v := by
        have hx2 : hus[i]? = some x2 := hx2
        exact Option.some.inj (hx2.symm.trans ev)
      subst e2
      have kT := (Kp.new hT : Kp [] H1 (upd H1 T0 (.tup [.int (i : Nat), x2])))
      have hT2 : (upd H1 T0 (.tup [.int (i : Nat), x2])) T0 = some (.tup [.int (i : Nat), x2]) := upd_same
      generalize upd H1 T0 (.tup [.int (i : Nat), x2]) = H3 at kT hT2 ⊢
      have k3 := k1.trans kT
      try simp (maxSteps := 1000000) only [tSeq, tIfS, tTest, tOp, tUn, tCB, tCons, tNil, tVar, tC, rI0, rI, rU, rEq, rNe, tRet, tRetN, tAsg, gName, gSub, tBM, tBM0, tNext, tB, tNot, tAnd, tOr, tIf, tCall, tDrop, tBreak, tCont, L2.start, tDGet, sDPut, tTup, tLst, tDNewK, tRevL, rCat, rAppend, rPop, rSetL, tAndV, tOrV, tNotV, tSl, tPart, tNoPart, tM1, gTup, gCons, gNil, cxK, cxnK, List.map_cons, List.map_nil, List.length_cons, List.length_nil, List.replicate, List.cons_append, List.nil_append, List.append_nil, List.set_cons_zero, List.set_cons_succ, List.getElem?_cons_zero, List.getElem?_cons_succ, Option.some.injEq, V.ref.injEq, V.int.injEq, V.str.injEq, V.bl.injEq, V.ty.injEq, exists_eq_left', exists_eq_left, exists_and_left, List.cons.injEq, and_true, true_and, sc_ii, sc_ss, sc_bb, sc_ni, sc_in, sc_is, sc_si, sc_nn, decide_true, decide_false, reduceCtorEq, Bool.false_eq_true, if_true, if_false, ite_true, ite_false, exists_const, eq_self, false_and, and_false, or_false, false_or, exists_false, Evl.rLenS, rSum, wipe, tYes, exists_eq, exists_eq', rIxL, rIxT, rIxS, exists_and_right, gt_iff_lt, not_true_eq_false, not_false_eq_true, Bool.not_true, Bool.not_false, decide_eq_true_eq, Nat.reduceSub, Nat.reduceAdd, List.append_assoc, tChain, tDIn, tDNotIn, sDDel, tAug, ipI, rInt1_int, rInt1_bl, tFld]
      refine ⟨_, sq_t hT2, rfl, _, _, rfl, _, _, rfl, rfl, ?_⟩
      have jl : (i + 1) % hs.length < hs.length := Nat.mod_lt _ (by omega)
      obtain ⟨v2, ev2, hv2⟩ := hru.at (hdJ_at jl)
      refine ⟨_, rfl, _, .inr (tu _ k3), by rw [lus]; omega, _, tu _ k3, v2, by rw [lus, nth_i m1 i]; exact atI_nat ev2, .inl ⟨rfl, _, sq_l (kT _ _ not0 hp1)⟩, ?_⟩
      have hhi := hh _ (hdJ_mem hi)
      have hhj := hh _ (hdJ_mem jl)
      obtain ⟨hbi, h3i, _⟩ := EO.hld _ hhi
      obtain ⟨hbj, h3j, _⟩ := EO.hld _ hhj
      have hv3 := hv.tp k3.tps
      have hv23 := hv2.tp k3.tps
      have hR3 := hR1.kp k3
      have hR3' := hR3
      obtain ⟨dxr, _, _, _, hro3, _⟩ := hR3'
      have ho3 := k3 _ _ not0 ho
      refine lc_src ?_
      try simp (maxSteps := 1000000) only [tSeq, tIfS, tTest, tOp, tUn, tCB, tCons, tNil, tVar, tC, rI0, rI, rU, rEq, rNe, tRet, tRetN, tAsg, gName, gSub, tBM, tBM0, tNext, tB, tNot, tAnd, tOr, tIf, tCall, tDrop, tBreak, tCont, L2.start, tDGet, sDPut, tTup, tLst, tDNewK, tRevL, rCat, rAppend, rPop, rSetL, tAndV, tOrV, tNotV, tSl, tPart, tNoPart, tM1, gTup, gCons, gNil, cxK, cxnK, List.map_cons, List.map_nil, List.length_cons, List.length_nil, List.replicate, List.cons_append, List.nil_append, List.append_nil, List.set_cons_zero, List.set_cons_succ, List.getElem?_cons_zero, List.getElem?_cons_succ, Option.some.injEq, V.ref.injEq, V.int.injEq, V.str.injEq, V.bl.injEq, V.ty.injEq, exists_eq_left', exists_eq_left, exists_and_left, List.cons.injEq, and_true, true_and, sc_ii, sc_ss, sc_bb, sc_ni, sc_in, sc_is, sc_si, sc_nn, decide_true, decide_false, reduceCtorEq, Bool.false_eq_true, if_true, if_false, ite_true, ite_false, exists_const, eq_self, false_and, and_false, or_false, false_or, exists_false, Evl.rLenS, rSum, wipe, tYes, exists_eq, exists_eq', rIxL, rIxT, rIxS, exists_and_right, gt_iff_lt, not_true_eq_false, not_false_eq_true, Bool.not_true, Bool.not_false, decide_eq_true_eq, Nat.reduceSub, Nat.reduceAdd, List.append_assoc, tChain, tDIn, tDNotIn, sDDel, tAug, ipI, rInt1_int, rInt1_bl, rGetO, tFld]
      refine ⟨CC, cp.dx, _, ho3, C.cl, C.n1, .ref cp.ro, rfl, cp.ro, rfl, ⟨dxr, _, hro3⟩, cp.ro, _, zs, es, hdJ hs i, rfl, hR3, hv3, hhi, fun l6 H6 nl6 hl6 k6 => ?_⟩
      refine lcG (R := fun _ v x => v = V.str (nmL zs x)) (R2 := fun _ v x => v = V.str (nmL zs x)) (fun _ _ _ _ _ h => h) (fun _ _ _ _ _ h => h) (fun r => decide (r ∈ hdJ hs ((i + 1) % hs.length))) id (src_list (fun R q' => q') (sq_l hl6)) ht_rw (Nat.le_trans (may_len EO hes) (by decide)) (fun v r H9 N N0 hr hv k9 hN hN0 => ?_) fun D us' H9 nD hD hrw k9 => ?_
      · subst hv
        have rn := may_lt (fun e he => (EO.ent e (hes.subset he)).1) r hr
        obtain ⟨va, rfl, hva⟩ := hv23.tp (k6.trans k9).tps
        refine ⟨by simp [wipe], ?_⟩
        try simp (maxSteps := 1000000) only [tSeq, tIfS, tTest, tOp, tUn, tCB, tCons, tNil, tVar, tC, rI0, rI, rU, rEq, rNe, tRet, tRetN, tAsg, gName, gSub, tBM, tBM0, tNext, tB, tNot, tAnd, tOr, tIf, tCall, tDrop, tBreak, tCont, L2.start, tDGet, sDPut, tTup, tLst, tDNewK, tRevL, rCat, rAppend, rPop, rSetL, tAndV, tOrV, tNotV, tSl, tPart, tNoPart, tM1, gTup, gCons, gNil, cxK, cxnK, List.map_cons, List.map_nil, List.length_cons, List.length_nil, List.replicate, List.cons_append, List.nil_append, List.append_nil, List.set_cons_zero, List.set_cons_succ, List.getElem?_cons_zero, List.getElem?_cons_succ, Option.some.injEq, V.ref.injEq, V.int.injEq, V.str.injEq, V.bl.injEq, V.ty.injEq, exists_eq_left', exists_eq_left, exists_and_left, List.cons.injEq, and_true, true_and, sc_ii, sc_ss, sc_bb, sc_ni, sc_in, sc_is, sc_si, sc_nn, decide_true, decide_false, reduceCtorEq, Bool.false_eq_true, if_true, if_false, ite_true, ite_false, exists_const, eq_self, false_and, and_false, or_false, false_or, exists_false, Evl.rLenS, rSum, wipe, tYes, exists_eq, exists_eq', rIxL, rIxT, rIxS, exists_and_right, gt_iff_lt, not_true_eq_false, not_false_eq_true, Bool.not_true, Bool.not_false, decide_eq_true_eq, Nat.reduceSub, Nat.reduceAdd, List.append_assoc, tChain, tDIn, tDNotIn, sDDel, tAug, ipI, rInt1_int, rInt1_bl]
        refine in_nm L rn hbj (sq_t hva) ⟨_, rfl, ?_⟩
        by_cases e : r ∈ hdJ hs ((i + 1) % hs.length)
        · rw [decide_eq_true e, if_pos rfl]
          exact hN (decide_eq_true e) _ _ rfl (Kp.refl _ _)
        · rw [decide_eq_false e, if_neg (by decide)]
          exact hN0 (decide_eq_false e) _ (Kp.refl _ _)
      · rw [List.map_id] at hrw
        have e := rw_strs hrw
        subst e
        have k39 := k6.trans k9
        refine ⟨D, _, rfl, sq_l hD, fun c nc => ?_⟩
        have hcut : cutV (List.map V.str (nmH zs (List.filter (fun r => decide (r ∈ hdJ hs ((i + 1) % List.length hs))) (mayR es (hdJ hs i))))) none (some 1) = (nmH zs (wantJ es hs i)).map V.str := by
          rw [show (some (1 : Int)) = some ((1 : Nat) : Int) from rfl, cut_0j]
          unfold nmH wantJ
          rw [← List.map_take]
        rw [hcut]
        have kc := (Kp.new nc : Kp [] H9 (upd H9 c (.lst ((nmH zs (wantJ es hs i)).map V.str))))
        have k3c := k39.trans kc
        have hpc := k3c _ _ not0 (kT _ _ not0 hp1)
        have l1 := (flat_le1 (f := wantJ es hs) (fun _ => want_le) (l := List.range i)).1
        rw [List.length_range] at l1
        have l2 := want_le (es := es) (hs := hs) (i := i)
        refine ⟨p, c, _, _, rfl, rfl, hpc, upd_same, by rw [List.length_map, List.length_map, nmH_len, nmH_len]; exact small (by omega), ?_, ((k3.trans k3c).wr np)⟩
        rw [upd_same, List.range_succ, List.flatMap_append, List.flatMap_singleton]
        unfold nmH
        rw [List.map_append, List.map_append]
    · rintro σ H1 ⟨c3, c4, c5, c6, rfl, hp1, k1⟩
      try simp (maxSteps := 1000000) only [tSeq, tIfS, tTest, tOp, tUn, tCB, tCons, tNil, tVar, tC, rI0, rI, rU, rEq, rNe, tRet, tRetN, tAsg, gName, gSub, tBM, tBM0, tNext, tB, tNot, tAnd, tOr, tIf, tCall, tDrop, tBreak, tCont, L2.start, tDGet, sDPut, tTup, tLst, tDNewK, tRevL, rCat, rAppend, rPop, rSetL, tAndV, tOrV, tNotV, tSl, tPart, tNoPart, tM1, gTup, gCons, gNil, cxK, cxnK, List.map_cons, List.map_nil, List.length_cons, List.length_nil, List.replicate, List.cons_append, List.nil_append, List.append_nil, List.set_cons_zero, List.set_cons_succ, List.getElem?_cons_zero, List.getElem?_cons_succ, Option.some.injEq, V.ref.injEq, V.int.injEq, V.str.injEq, V.bl.injEq, V.ty.injEq, exists_eq_left', exists_eq_left, exists_and_left, List.cons.injEq, and_true, true_and, sc_ii, sc_ss, sc_bb, sc_ni, sc_in, sc_is, sc_si, sc_nn, decide_true, decide_false, reduceCtorEq, Bool.false_eq_true, if_true, if_false, ite_true, ite_false, exists_const, eq_self, false_and, and_false, or_false, false_or, exists_false, Evl.rLenS, rSum, wipe, tYes, exists_eq, exists_eq', rIxL, rIxT, rIxS, exists_and_right, gt_iff_lt, not_true_eq_false, not_false_eq_true, Bool.not_true, Bool.not_false, decide_eq_true_eq, Nat.reduceSub, Nat.reduceAdd, List.append_assoc, tChain, tDIn, tDNotIn, sDDel, tAug, ipI, rInt1_int, rInt1_bl]
      rw [lus] at hp1
      exact q p H1 np hp1 k1
end
end My

set_option Elab.async false
set_option linter.all false
set_option maxRecDepth 100000
set_option maxHeartbeats 4000000
namespace My
open PySem L2 NdefX
section
variable {P : Program} {w : World} {K : PySem.W.Frag} {mg : Str → Option Value} {base : Heap} {RC CC : Addr}
theorem forL_src {K : PySem.W.Frag} {te : TE} {g : TG} {tb : L2.TS} {D : Ends} {σ : L2.St} {H : Hp} (h : te σ H fun v H1 => tFor (iList K (tC v)) g tb D σ H1) : tFor (iList K te) g tb D σ H := h
theorem forLC {K : PySem.W.Frag} {g : TG} {tb : L2.TS} {D : Ends} {σ : L2.St} {H : Hp} {a : Addr} {xs : List V} (Pv : Nat → L2.St → Hp → Prop) (hS : SqL K H a xs) (h0 : Pv 0 σ H) (hl : ∀ j σ H, j ≤ xs.length → Pv j σ H → SqL K H a xs)
    (hs : ∀ j x σ H, xs[j]? = some x → Pv j σ H → g x σ H fun σ2 H2 => tb { D with nx := Pv (j + 1), ct := Pv (j + 1), bk := D.nx } σ2 H2) (hd : ∀ σ H, Pv xs.length σ H → D.nx σ H) : tFor (iList K (tC (.ref a))) g tb D σ H :=
  ⟨a, rfl, ⟨xs, hS⟩, for_list Pv h0 hl hs hd⟩
theorem set_parts {α : Type} {l : List α} {i : Nat} {x : α} (h : i < l.length) : l.take i ++ [x] ++ l.drop (i + 1) = l.set i x := by
  rw [List.set_eq_take_append_cons_drop, if_pos h, List.append_assoc]
  rfl
theorem in_lst {zs : List Str} {H : Hp} {a : Addr} {h : List Nat} {r : Nat} {Q : VK} (L : LkOk zs) (hr : r < zs.length) (hb : below zs.length h) (ha : SqL K H a ((nmH zs h).map V.str)) (q : Q (.bl (!decide (r ∈ h))) H) : rIn K true (.str (nmL zs r)) (.ref a) H Q := by
  refine ⟨a, _, rfl, .inl ha, rfl, flat_strs _, ?_⟩
  simp only [if_true, inV_str]
  rw [show decide (nmL zs r ∈ nmH zs h) = decide (r ∈ h) from by rw [Bool.eq_iff_iff, decide_eq_true_eq, decide_eq_true_eq]; exact mem_nmH L hr hb]
  exact q
/-- a pair more in the dict, a state more in the list -/
theorem CiAt.add {c : CirP} {Hb H : Hp} {o : Addr} {zs : List Str} {es : List En} {B : List Bk} {st : Option Jt} {kvs : List (NestedKey × V)} {us : List V} {ob : HO} {v u : V} {g : Jt} {x : Option (Jt × Stp)} (h : CiAt P w RC CC c Hb H o zs es B st)
    (hd : DnAt P w H c.bl kvs) (hk : kvs.map (·.1) = (keysB B).map (keyJ zs)) (hv : Rw (BV zs H) (kvs.map (·.2)) (B.map (·.2))) (hf : H c.fl = some (.lst us)) (hr : Rw (JT zs H) us (keysB B)) (nm : keyJ zs g ∉ kvs.map (·.1))
    (hu : JT zs H u g) (hx : BV zs H v x) (hob : DnAt P w (upd H c.bl ob) c.bl (putN kvs (keyJ zs g) v)) : (upd H c.bl ob) c.fl = some (.lst us) ∧ CiAt P w RC CC c Hb (upd (upd H c.bl ob) c.fl (.lst (us ++ [u]))) o zs es (B ++ [(g, x)]) st ∧ Tp H (upd (upd H c.bl ob) c.fl (.lst (us ++ [u]))) := by
  have t1 : Tp H (upd H c.bl ob) := fun b xs e => by rw [upd_ne (dn_nt hd e)]; exact e
  have hf1 : (upd H c.bl ob) c.fl = some (.lst us) := by rw [upd_ne h.ne]; exact hf
  have t2 : Tp H (upd (upd H c.bl ob) c.fl (.lst (us ++ [u]))) := t1.trans ((Tp.refl _).putL hf1)
  obtain ⟨sv, ho, hsv⟩ := h.ob
  have ofl : o ≠ c.fl := fun z => by rw [z, hf] at ho; cases ho
  have obl : o ≠ c.bl := fun z => by have := h.bo; rw [z, h.bb] at this; cases this
  refine ⟨hf1, ⟨h.bo, h.ru, h.lk, h.bf, h.bb, h.ne, (h.kp.wr h.bb).wr h.bf, ⟨sv, ?_, hsv.tp t2⟩, ⟨_, upd_same, ?_⟩, ⟨_, dn_wr hob hf1 (fun z => h.ne z.symm), ?_, ?_⟩⟩, t2⟩
  · rw [upd_ne ofl, upd_ne obl]; exact ho
  · unfold keysB
    rw [List.map_append]
    exact (hr.mono fun _ _ z => z.tp t2).snoc (hu.tp t2)
  · rw [putN_keys, if_neg nm, hk]
    unfold keysB
    rw [List.map_append, List.map_append]
    rfl
  · have e : putN kvs (keyJ zs g) v = kvs ++ [(keyJ zs g, v)] := by
      unfold putN
      rw [valN_isK, decide_eq_false nm, if_neg (by decide)]
    rw [e, List.map_append, List.map_append]
    exact (hv.mono fun _ _ z => z.tp t2).snoc (hx.tp t2)
theorem dn_wI {H : Hp} {d l C dx : Addr} {fs : List (Str × V)} {kvs : List (NestedKey × V)} {ob : HO} (h : DnAt P w H d kvs) (hl : H l = some (.ins C dx fs)) (ne : d ≠ l) : DnAt P w (upd H l ob) d kvs := by
  rcases h with ⟨a, b⟩ | ⟨xs, a, b, c⟩
  · exact .inl ⟨by rw [upd_ne ne]; exact a, b⟩
  · refine .inr ⟨xs, by rw [upd_ne ne]; exact a, b, fun x hx => ⟨(c x hx).1.tp fun b ys e => ?_, (c x hx).2⟩⟩
    rw [upd_ne (fun z => by rw [z, hl] at e; cases e)]
    exact e
/-- where it is stuck is written -/
theorem CiAt.stk {c : CirP} {Hb H : Hp} {o : Addr} {zs : List Str} {es : List En} {B : List Bk} {st : Option Jt} {sv v : V} {hs : Option Jt} (h : CiAt P w RC CC c Hb H o zs es B st)
    (ho : H o = some (.ins CC c.dx [("_rule", .ref c.ro), ("_locks", .ref c.ll), ("_found", .ref c.fl), ("_back", .ref c.bl), ("stuck_at", sv)])) (hv : SV zs H v hs) :
    CiAt P w RC CC c Hb (upd H o (.ins CC c.dx (putF "stuck_at" v [("_rule", .ref c.ro), ("_locks", .ref c.ll), ("_found", .ref c.fl), ("_back", .ref c.bl), ("stuck_at", sv)]))) o zs es B hs := by
  obtain ⟨us, hf, hr⟩ := h.fd
  obtain ⟨kvs, hd, hk, hb⟩ := h.bk
  have t : Tp H (upd H o (.ins CC c.dx (putF "stuck_at" v [("_rule", .ref c.ro), ("_locks", .ref c.ll), ("_found", .ref c.fl), ("_back", .ref c.bl), ("stuck_at", sv)]))) := (Tp.refl _).putI ho
  have ofl : c.fl ≠ o := fun z => by rw [z, ho] at hf; cases hf
  have obl : c.bl ≠ o := fun z => by have := h.bo; rw [← z, h.bb] at this; cases this
  exact ⟨h.bo, h.ru, h.lk, h.bf, h.bb, h.ne, h.kp.put List.mem_cons_self, ⟨v, by rw [upd_same]; rfl, hv.tp t⟩, ⟨us, by rw [upd_ne ofl]; exact hf, hr.mono fun _ _ z => z.tp t⟩, ⟨kvs, dn_wI hd ho obl, hk, hb.mono fun _ _ z => z.tp t⟩⟩
def spLook (P : Program) (w : World) (RC CC : Addr) : Sp := fun vs H Q _ => ∃ (o : Addr) (u : V) (c : CirP) (Hb : Hp) (zs : List Str) (es : List En) (B : List Bk) (hs : Jt) (m : Nat), vs = [.ref o, u] ∧ CiAt P w RC CC c Hb H o zs es B none ∧ JT zs H u hs ∧ hs ∈ keysB B ∧ GB zs.length m es B ∧ 1 ≤ m ∧ m ≤ 3 ∧
  (stuckJ es hs = true → ∀ H', CiAt P w RC CC c Hb H' o zs es B (some hs) → Q .non H') ∧ (stuckJ es hs = false → ∀ H', CiAt P w RC CC c Hb H' o zs es (lookB zs.length es hs B) none → Q .non H')
theorem ok_Circle_look {f : Addr} {fd : FuncData} (F : Fun K "_look" "Circle._look" s_Circle_look f fd) (T : BtC mg) (C : CiC K mg CC) (RR : RuC K mg RC) (ne : CC ≠ RC)
    {fg : Addr} {fdg : FuncData} (GT_Rule : GetC K RC fg) (G_Rule_getitem : FnOk P w K mg base CX0 3 fg fdg ["self", "at"] (spRuG RC)) (b_Rule_getitem : Binds K fdg ["self", "at"] [])
    {f2 : Addr} {fd2 : FuncData} (D_held_after : Df K mg "held_after" s_held_after ["held", "name", "locks"] f2 fd2) (G_held_after : FnOk P w K mg base CX0 1 f2 fd2 ["held", "name", "locks"] (spAft K))
    {f3 : Addr} {fd3 : FuncData} (ME_Circle_wants_at : Meth K CC "wants_at" f3) (bM_Circle_wants_at : Binds K fd3 ["self", "helds"] []) (G_Circle_wants_at : FnOk P w K mg base CX0 5 f3 fd3 ["self", "helds"] (spWants P w RC CC)) :
    FnOk P w K mg base CX0 7 f fd ["self", "helds"] (spLook P w RC CC) := by
  refine F.ok sc_Circle_look (fun vs H Q E h => ?_) (fun cdv A outer s H vs Q E hr h => ?_)
  · obtain ⟨_, _, _, _, _, _, _, _, _, rfl, _⟩ := h
    rfl
  · obtain ⟨o, u, cp, Hb, zs, es, B, hs, m, rfl, hC, hJ, hm, hG, m1, m3, qs, qn⟩ := h
    have hu := hu_of hr
    obtain ⟨sv, ho, hsv⟩ := id hC.ob
    obtain ⟨_, _, _, _, _, _, _, _, L, hes⟩ := id hC.ru
    have n1 := L.pos
    have n3 : zs.length < 4 := by have := L.le; omega
    have EO := factE n3 n1
    have hR1 := ru_of hC.ru hC.bo ne hC.kp
    have hrc := gb_mem hG hm
    have hal := rch_all n3 n1 (by omega) hes hrc
    obtain ⟨hlen, hhl, hdis⟩ := all_mem hal
    have hJ' := hJ
    obtain ⟨ua, hus, rfl, hua, hru⟩ := hJ'
    have lus := hru.len
    refine ⟨_, (pss_cons (ps_if (pt_cmpR op_eq (pe_callB (id := "len") (r := Evl.rLenS K) call_len_seq (by rfl) T.b_len PySem.boot_len (pa_cons (pe_meth (pv 0) C.cl ME_Circle_wants_at G_Circle_wants_at (hr.mono (by decide)) bM_Circle_wants_at .nil pass0 (pa_cons (pv 1) pa_nil)) pa_nil)) (pe_callB (id := "len") (r := Evl.rLenS K) call_len_seq (by rfl) T.b_len PySem.boot_len (pa_cons (pv 1) pa_nil)) (nomark _)) (pss_cons (ps_fld (pv 0) (pv 1) rfl)
      (pss_one ps_retN)) pss_nil)
      (pss_cons (ps_set (i := 2) sc_Circle_look.nd rfl (Or.inr rfl) (pe_lc2 (own := [("held", 3), ("name", 4)]) (g1 := (gName 3)) (g2 := (gName 4)) (vs2 := [4]) (tt1 := tYes) (tt2 := tYes) rfl sc_Circle_look.nd (pi_tup (pv 1)) (blkOk_by (N := ["self", "helds", "taken", "held", "name", "at", "steps", "step", "goal"]) (sc := defScope s_Circle_look) (by decide +kernel)) (by decide) (fun _ _ _ _ _ => (pg_name (i := 3) sc_Circle_look.nd rfl (Or.inl rfl))) (fun _ _ _ _ _ => pts_nil) (fun _ _ _ _ _ => ((pi_tup (pv 3)) : PI _ _ _ (iTup K _))) (fun _ _ _ _ _ => (pg_name (i := 4) sc_Circle_look.nd rfl (Or.inl rfl))) (fun _ _ _ _ _ => pts_nil) (fun _ _ _ _ _ => (pv 4))))
      (pss_one (ps_for PassesOwn.never rfl (pi_enumT rfl T.b_enumerate (pa_cons (pv 1) pa_nil)) (pg_tup (n := 2) (by rfl) (pgs_cons (pg_name (i := 5) sc_Circle_look.nd rfl (Or.inl rfl)) (pgs_cons (pg_name (i := 3) sc_Circle_look.nd rfl (Or.inl rfl)) pgs_nil))) (pss_cons (ps_setLc (i := 6) (own := [("name", 4)]) (g := (gName 4)) rfl sc_Circle_look.nd rfl rfl (sw_true rfl rfl rfl (by decide +kernel)) (pi_list (pe_getO GT_Rule G_Rule_getitem b_Rule_getitem (hr.mono (by decide)) pass0 (pe_fld (pv 0) rfl) (pv 3))) (blkOk_by (N := ["self", "helds", "taken", "held", "name", "at", "steps", "step", "goal"]) (sc := defScope s_Circle_look) (by decide +kernel)) (fun _ _ _ _ _ => (pg_name (i := 4) sc_Circle_look.nd rfl (Or.inl rfl))) (fun _ _ _ _ _ => (pts_one (pt_cmpR (r := rIn K true) op_notIn_seq (pv 4) (pv 2) (by rfl)))) (fun _ _ _ _ _ => (pe_tup (pa_cons pe_str (pa_cons (pv 4) pa_nil)))))
      (pss_one (ps_for PassesOwn.never rfl (pi_list (pe_op op_cat (pv 6) (pe_lc (own := [("name", 4)]) (g := (gName 4)) (tt := tYes) rfl sc_Circle_look.nd (pi_tup (pv 3)) (blkOk_by (N := ["self", "helds", "taken", "held", "name", "at", "steps", "step", "goal"]) (sc := defScope s_Circle_look) (by decide +kernel)) (fun _ _ _ _ _ => (pg_name (i := 4) sc_Circle_look.nd rfl (Or.inl rfl))) (fun _ _ _ _ _ => pts_nil) (fun _ _ _ _ _ => (pe_tup (pa_cons pe_str (pa_cons (pv 4) pa_nil))))))) (pg_name (i := 7) sc_Circle_look.nd rfl (Or.inl rfl)) (pss_cons (ps_set (i := 8) sc_Circle_look.nd rfl (Or.inl rfl) (pe_op op_catA (pe_op op_catA (pe_slice sl_tupA (pv 1) po_none (po_some (pv 5))) (pe_tup (pa_cons (pe_call G_held_after (hr.mono (by decide)) rfl D_held_after.g D_held_after.F.kp D_held_after.b .nil pass0 (pa_cons (pv 3) (pa_cons (pe_ix (r := rIxT K) ix_tup (pv 7) pe_int (fun _ _ => rfl)) (pa_cons (pe_fld (pv 0) rfl) pa_nil)))) pa_nil))) (pe_slice sl_tupA (pv 1) (po_some (pe_op op_add (pv 5) pe_int)) po_none)))
      (pss_one (ps_if (pt_cmp (pc_nnotin hr.units (pv 8) (pe_fld (pv 0) rfl))) (pss_cons (ps_nput hr.units (pe_fld (pv 0) rfl) (pv 8) (pe_tup (pa_cons (pv 1) (pa_cons (pv 5) (pa_cons (pv 7) pa_nil)))) rfl)
      (pss_one (ps_expr (pe_bm PySem.F.plainAttrs_list PySem.F.slot_list_append PySem.F.type_list_append mt_append (pe_fld (pv 0) rfl) (pa_cons (pv 8) pa_nil))))) pss_nil)))))))))), ?_⟩
    try simp (maxSteps := 1000000) only [tSeq, tIfS, tTest, tOp, tUn, tCB, tCons, tNil, tVar, tC, rI0, rI, rU, rEq, rNe, tRet, tRetN, tAsg, gName, gSub, tBM, tBM0, tNext, tB, tNot, tAnd, tOr, tIf, tCall, tDrop, tBreak, tCont, L2.start, tDGet, sDPut, tTup, tLst, tDNewK, tRevL, rCat, rAppend, rPop, rSetL, tAndV, tOrV, tNotV, tSl, tPart, tNoPart, tM1, gTup, gCons, gNil, cxK, cxnK, List.map_cons, List.map_nil, List.length_cons, List.length_nil, List.replicate, List.cons_append, List.nil_append, List.append_nil, List.set_cons_zero, List.set_cons_succ, List.getElem?_cons_zero, List.getElem?_cons_succ, Option.some.injEq, V.ref.injEq, V.int.injEq, V.str.injEq, V.bl.injEq, V.ty.injEq, exists_eq_left', exists_eq_left, exists_and_left, List.cons.injEq, and_true, true_and, sc_ii, sc_ss, sc_bb, sc_ni, sc_in, sc_is, sc_si, sc_nn, decide_true, decide_false, reduceCtorEq, Bool.false_eq_true, if_true, if_false, ite_true, ite_false, exists_const, eq_self, false_and, and_false, or_false, false_or, exists_false, Evl.rLenS, rSum, wipe, tYes, exists_eq, exists_eq', rIxL, rIxT, rIxS, exists_and_right, gt_iff_lt, not_true_eq_false, not_false_eq_true, Bool.not_true, Bool.not_false, decide_eq_true_eq, Nat.reduceSub, Nat.reduceAdd, List.append_assoc, tChain, tDIn, tDNotIn, sDDel, tAug, ipI, rInt1_int, rInt1_bl, tMeth, tFld, sFld]
    refine ⟨cp.dx, _, ho, rfl, o, .ref ua, cp, Hb, zs, es, B, none, hs, rfl, hC, hJ, hhl, by omega, by omega, fun l1 H1 nl1 hl1 k1 => ?_⟩
    have hJ1 := hJ.tp k1.tps
    have hC1 := hC.mv k1
    have ho1 := k1 _ _ not0 ho
    refine ⟨l1, rfl, _, .inl (sq_l hl1), _, .inr (sq_t (k1 _ _ not0 hua)), ?_⟩
    rw [List.length_map, nmH_len, lus]
    by_cases sk : stuckJ es hs = true
    · have e : (wantsJ es hs).length = hs.length := of_decide_eq_true sk
      rw [if_pos (by rw [e])]
      exact ⟨CC, cp.dx, _, ho1, C.cl, C.n5, by show 5 < 1000; decide, qs sk _ (hC1.stk ho1 hJ1)⟩
    have sk : stuckJ es hs = false := by simpa using sk
    have e : ¬ (wantsJ es hs).length = hs.length := of_decide_eq_false sk
    rw [if_neg (fun z => e (by exact_mod_cast z))]
    have q := qn sk
    have tu : ∀ H', Tp H H' → SqT K H' ua hus := fun H' t => sq_t (t _ _ hua)
    have hb3 : ∀ h ∈ hs, below zs.length h ∧ h.length ≤ 3 := fun h hh => ⟨(EO.hld h (hhl h hh)).1, (EO.hld h (hhl h hh)).2.1⟩
    have hbf : below zs.length hs.flatten := fun x hx => by
      obtain ⟨h, hh, hx⟩ := List.mem_flatten.mp hx
      exact (hb3 h hh).1 x hx
    have hfl9 : hs.flatten.length ≤ 20 := by
      have : ∀ {l : List Hd}, (∀ h ∈ l, h.length ≤ 3) → l.flatten.length ≤ 3 * l.length := fun {l} => by
        induction l with
        | nil => intro _; simp
        | cons x r ih =>
          intro h
          have := ih fun y hy => h y (List.mem_cons_of_mem _ hy)
          have := h x List.mem_cons_self
          rw [List.flatten_cons, List.length_append, List.length_cons]
          omega
      have := this fun h hh => (hb3 h hh).2
      omega
    refine lc2G (R := HT zs) (S := fun _ v x => v = V.str (nmL zs x)) (R2 := fun _ v x => v = V.str (nmL zs x)) (fun _ _ _ _ t h => h.tp t) (fun _ _ _ _ _ h => h) (fun _ _ _ _ _ h => h) (fun h => h) (fun _ _ => true) (fun _ r => r) (src_tup (fun R q' => ⟨_, rfl, q'⟩) (tu _ k1.tps)) (hru.mono fun _ _ z => HT.tp z k1.tps) ?_ (fun v h H2 M hm hv k2 hM => ?_) fun D us' H2 nD hD hr' k2 => ?_
    · rw [List.flatMap_id']
      exact Nat.le_trans hfl9 (by decide)
    · obtain ⟨va, rfl, hva⟩ := hv
      refine hM _ _ (by simp [wipe]) (Kp.refl _ _) ⟨va, _, .inr ⟨fun H3 k t => sq_t (t _ _ hva), fun R q => ⟨.ref va, rfl, va, rfl, ⟨_, sq_t hva⟩, q⟩⟩, ht_rw⟩ fun u r H3 N N0 hr hu k3 t3 hN hN0 => ?_
      refine ⟨by simp [wipe], ?_⟩
      try simp (maxSteps := 1000000) only [tSeq, tIfS, tTest, tOp, tUn, tCB, tCons, tNil, tVar, tC, rI0, rI, rU, rEq, rNe, tRet, tRetN, tAsg, gName, gSub, tBM, tBM0, tNext, tB, tNot, tAnd, tOr, tIf, tCall, tDrop, tBreak, tCont, L2.start, tDGet, sDPut, tTup, tLst, tDNewK, tRevL, rCat, rAppend, rPop, rSetL, tAndV, tOrV, tNotV, tSl, tPart, tNoPart, tM1, gTup, gCons, gNil, cxK, cxnK, List.map_cons, List.map_nil, List.length_cons, List.length_nil, List.replicate, List.cons_append, List.nil_append, List.append_nil, List.set_cons_zero, List.set_cons_succ, List.getElem?_cons_zero, List.getElem?_cons_succ, Option.some.injEq, V.ref.injEq, V.int.injEq, V.str.injEq, V.bl.injEq, V.ty.injEq, exists_eq_left', exists_eq_left, exists_and_left, List.cons.injEq, and_true, true_and, sc_ii, sc_ss, sc_bb, sc_ni, sc_in, sc_is, sc_si, sc_nn, decide_true, decide_false, reduceCtorEq, Bool.false_eq_true, if_true, if_false, ite_true, ite_false, exists_const, eq_self, false_and, and_false, or_false, false_or, exists_false, Evl.rLenS, rSum, wipe, tYes, exists_eq, exists_eq', rIxL, rIxT, rIxS, exists_and_right, gt_iff_lt, not_true_eq_false, not_false_eq_true, Bool.not_true, Bool.not_false, decide_eq_true_eq, Nat.reduceSub, Nat.reduceAdd, List.append_assoc, tChain, tDIn, tDNotIn, sDDel, tAug, ipI, rInt1_int, rInt1_bl]
      exact hN rfl _ _ hu (Kp.refl _ _)
    have eD : us' = (nmH zs hs.flatten).map V.str := by
      have := rw_strs hr'
      rw [this]
      congr 2
      rw [← List.flatMap_id']
      congr 1
      funext h
      simp
    subst eD
    have k02 := k1.trans k2
    have hC2 := hC.mv k02
    obtain ⟨us0, hf0, _⟩ := id hC1.fd
    have Dfl : D ≠ cp.fl := fun z => by rw [z, hf0] at nD; cases nD
    obtain ⟨Bij, hBij⟩ : ∃ Bij : Nat → Nat → List Bk, Bij = fun i j => ((List.range i).flatMap (nextJ es hs) ++ (nextJ es hs i).take j).foldl (addB zs.length hs) B := ⟨_, rfl⟩
    have B0 : Bij 0 0 = B := by rw [hBij]; rfl
    have Bst : ∀ i j x, (stepsJ es hs i)[j]? = some x → Bij i (j + 1) = addB zs.length hs (Bij i j) (i, x) := fun i j x e => by
      rw [hBij]
      have e2 : (nextJ es hs i)[j]? = some (i, x) := by
        unfold nextJ
        rw [List.getElem?_map, e]
        rfl
      show (_ ++ (nextJ es hs i).take (j + 1)).foldl _ _ = addB _ _ ((_ ++ (nextJ es hs i).take j).foldl _ _) _
      rw [take_snoc e2, ← List.append_assoc, List.foldl_append]
      rfl
    have Bnx : ∀ i, Bij i (stepsJ es hs i).length = Bij (i + 1) 0 := fun i => by
      rw [hBij]
      show (_ ++ (nextJ es hs i).take _).foldl _ _ = ((List.range (i + 1)).flatMap (nextJ es hs) ++ _).foldl _ _
      rw [List.take_of_length_le (by unfold nextJ; rw [List.length_map]; exact Nat.le_refl _), List.take_zero, List.append_nil, List.range_succ, List.flatMap_append, List.flatMap_singleton]
    have Bfin : Bij hs.length 0 = lookB zs.length es hs B := by
      rw [hBij]
      show List.foldl _ _ (_ ++ List.take 0 _) = _
      rw [List.take_zero, List.append_nil]
      rfl
    have GBij : ∀ i j, i < hs.length → GB zs.length m es (Bij i j) ∧ hs ∈ keysB (Bij i j) := fun i j hi => by
      rw [hBij]
      have ok : ∀ s ∈ (List.range i).flatMap (nextJ es hs) ++ (nextJ es hs i).take j, OkJ es hs s := fun s hs' => by
        refine nexts_ok.mp ?_
        unfold nextsJ
        rcases List.mem_append.mp hs' with h | h
        · obtain ⟨a, ha, hb⟩ := List.mem_flatMap.mp h
          exact List.mem_flatMap.mpr ⟨a, List.mem_range.mpr (by have := List.mem_range.mp ha; omega), hb⟩
        · exact List.mem_flatMap.mpr ⟨i, List.mem_range.mpr hi, List.mem_of_mem_take h⟩
      obtain ⟨a, _, b, _⟩ := fold_gb (n := zs.length) (m := m) (es := es) (hs := hs) hG hm ok
      exact ⟨a, b _ hm⟩
    clear hBij
    refine ⟨.ref ua, rfl, ua, _, rfl, tu _ k02.tps, for_it (walk_enumT (K := K) (a := ua) (xs := hus)) (fun i σ H' => ∃ c3 c4 c5 c6 c7 c8, σ = [some (.ref o), some (.ref ua), some (.ref D), c3, c4, c5, c6, c7, c8] ∧ CiAt P w RC CC cp Hb H' o zs es (Bij i 0) none ∧ H' D = some (.lst ((nmH zs hs.flatten).map V.str)) ∧ Tp H H') ⟨_, _, _, _, _, _, rfl, by rw [B0]; exact hC2, hD, k02.tps⟩ (fun i σ H' _ h => by obtain ⟨_, _, _, _, _, _, _, _, _, t⟩ := h; exact tu _ t) ?_ ?_⟩
    · rintro i x σ H3 H4 hi ⟨c3, c4, c5, c6, c7, c8, rfl, hC3, hD3, t3⟩ ⟨T0, x1, x2, rfl, hT, rfl, hx1, hx2⟩
      cases hx1
      rw [lus] at hi
      obtain ⟨v, ev, hv⟩ := hru.at (hdJ_at hi)
      have e2 : x2 = v := by
        have hx2 : hus[i]? = some x2 := hx2
        exact Option.some.inj (hx2.symm.trans ev)
      subst e2
      have kT := (Kp.new hT : Kp [] H3 (upd H3 T0 (.tup [.int (i : Nat), x2])))
      have hT2 : (upd H3 T0 (.tup [.int (i : Nat), x2])) T0 = some (.tup [.int (i : Nat), x2]) := upd_same
      generalize upd H3 T0 (.tup [.int (i : Nat), x2]) = H4 at kT hT2 ⊢
      have hC4 := hC3.mv kT
      have hD4 := kT _ _ not0 hD3
      have t4 := t3.trans kT.tps
      have hv4 := hv.tp t4
      have hhi := hhl _ (hdJ_mem hi)
      obtain ⟨hbi, h3i, haft⟩ := EO.hld _ hhi
      have hR4 := ru_of hC4.ru hC4.bo ne hC4.kp
      obtain ⟨dxr, _, _, _, hro4, _⟩ := id hR4
      obtain ⟨sv4, ho4, hsv4⟩ := id hC4.ob
      try simp (maxSteps := 1000000) only [tSeq, tIfS, tTest, tOp, tUn, tCB, tCons, tNil, tVar, tC, rI0, rI, rU, rEq, rNe, tRet, tRetN, tAsg, gName, gSub, tBM, tBM0, tNext, tB, tNot, tAnd, tOr, tIf, tCall, tDrop, tBreak, tCont, L2.start, tDGet, sDPut, tTup, tLst, tDNewK, tRevL, rCat, rAppend, rPop, rSetL, tAndV, tOrV, tNotV, tSl, tPart, tNoPart, tM1, gTup, gCons, gNil, cxK, cxnK, List.map_cons, List.map_nil, List.length_cons, List.length_nil, List.replicate, List.cons_append, List.nil_append, List.append_nil, List.set_cons_zero, List.set_cons_succ, List.getElem?_cons_zero, List.getElem?_cons_succ, Option.some.injEq, V.ref.injEq, V.int.injEq, V.str.injEq, V.bl.injEq, V.ty.injEq, exists_eq_left', exists_eq_left, exists_and_left, List.cons.injEq, and_true, true_and, sc_ii, sc_ss, sc_bb, sc_ni, sc_in, sc_is, sc_si, sc_nn, decide_true, decide_false, reduceCtorEq, Bool.false_eq_true, if_true, if_false, ite_true, ite_false, exists_const, eq_self, false_and, and_false, or_false, false_or, exists_false, Evl.rLenS, rSum, wipe, tYes, exists_eq, exists_eq', rIxL, rIxT, rIxS, exists_and_right, gt_iff_lt, not_true_eq_false, not_false_eq_true, Bool.not_true, Bool.not_false, decide_eq_true_eq, Nat.reduceSub, Nat.reduceAdd, List.append_assoc, tChain, tDIn, tDNotIn, sDDel, tAug, ipI, rInt1_int, rInt1_bl]
      refine ⟨_, sq_t hT2, rfl, _, _, rfl, _, _, rfl, rfl, ?_⟩
      refine lc_src ?_
      try simp (maxSteps := 1000000) only [tSeq, tIfS, tTest, tOp, tUn, tCB, tCons, tNil, tVar, tC, rI0, rI, rU, rEq, rNe, tRet, tRetN, tAsg, gName, gSub, tBM, tBM0, tNext, tB, tNot, tAnd, tOr, tIf, tCall, tDrop, tBreak, tCont, L2.start, tDGet, sDPut, tTup, tLst, tDNewK, tRevL, rCat, rAppend, rPop, rSetL, tAndV, tOrV, tNotV, tSl, tPart, tNoPart, tM1, gTup, gCons, gNil, cxK, cxnK, List.map_cons, List.map_nil, List.length_cons, List.length_nil, List.replicate, List.cons_append, List.nil_append, List.append_nil, List.set_cons_zero, List.set_cons_succ, List.getElem?_cons_zero, List.getElem?_cons_succ, Option.some.injEq, V.ref.injEq, V.int.injEq, V.str.injEq, V.bl.injEq, V.ty.injEq, exists_eq_left', exists_eq_left, exists_and_left, List.cons.injEq, and_true, true_and, sc_ii, sc_ss, sc_bb, sc_ni, sc_in, sc_is, sc_si, sc_nn, decide_true, decide_false, reduceCtorEq, Bool.false_eq_true, if_true, if_false, ite_true, ite_false, exists_const, eq_self, false_and, and_false, or_false, false_or, exists_false, Evl.rLenS, rSum, wipe, tYes, exists_eq, exists_eq', rIxL, rIxT, rIxS, exists_and_right, gt_iff_lt, not_true_eq_false, not_false_eq_true, Bool.not_true, Bool.not_false, decide_eq_true_eq, Nat.reduceSub, Nat.reduceAdd, List.append_assoc, tChain, tDIn, tDNotIn, sDDel, tAug, ipI, rInt1_int, rInt1_bl, rGetO, tFld]
      refine ⟨CC, cp.dx, _, ho4, C.cl, C.n1, .ref cp.ro, rfl, cp.ro, rfl, ⟨dxr, _, hro4⟩, cp.ro, _, zs, es, hdJ hs i, rfl, hR4, hv4, hhi, fun l6 H6 nl6 hl6 k6 => ?_⟩
      have mlt := may_lt (es := es) (h := hdJ hs i) (fun e he => (EO.ent e (hes.subset he)).1)
      refine lcG (R := fun _ v x => v = V.str (nmL zs x)) (R2 := SDt zs) (fun _ _ _ _ _ h => h) (fun _ _ _ _ t h => h.tp t) (fun r => !decide (r ∈ hs.flatten)) (fun r => (true, r)) (src_list (fun R q' => q') (sq_l hl6)) ht_rw (Nat.le_trans (may_len EO hes) (by decide)) (fun v r H9 N N0 hr hv k9 hN hN0 => ?_) fun p1 us1 H7 np1 hp1 hr1 k7 => ?_
      · subst hv
        have rn := mlt r hr
        refine ⟨by simp [wipe], ?_⟩
        try simp (maxSteps := 1000000) only [tSeq, tIfS, tTest, tOp, tUn, tCB, tCons, tNil, tVar, tC, rI0, rI, rU, rEq, rNe, tRet, tRetN, tAsg, gName, gSub, tBM, tBM0, tNext, tB, tNot, tAnd, tOr, tIf, tCall, tDrop, tBreak, tCont, L2.start, tDGet, sDPut, tTup, tLst, tDNewK, tRevL, rCat, rAppend, rPop, rSetL, tAndV, tOrV, tNotV, tSl, tPart, tNoPart, tM1, gTup, gCons, gNil, cxK, cxnK, List.map_cons, List.map_nil, List.length_cons, List.length_nil, List.replicate, List.cons_append, List.nil_append, List.append_nil, List.set_cons_zero, List.set_cons_succ, List.getElem?_cons_zero, List.getElem?_cons_succ, Option.some.injEq, V.ref.injEq, V.int.injEq, V.str.injEq, V.bl.injEq, V.ty.injEq, exists_eq_left', exists_eq_left, exists_and_left, List.cons.injEq, and_true, true_and, sc_ii, sc_ss, sc_bb, sc_ni, sc_in, sc_is, sc_si, sc_nn, decide_true, decide_false, reduceCtorEq, Bool.false_eq_true, if_true, if_false, ite_true, ite_false, exists_const, eq_self, false_and, and_false, or_false, false_or, exists_false, Evl.rLenS, rSum, wipe, tYes, exists_eq, exists_eq', rIxL, rIxT, rIxS, exists_and_right, gt_iff_lt, not_true_eq_false, not_false_eq_true, Bool.not_true, Bool.not_false, decide_eq_true_eq, Nat.reduceSub, Nat.reduceAdd, List.append_assoc, tChain, tDIn, tDNotIn, sDDel, tAug, ipI, rInt1_int, rInt1_bl]
        refine in_lst L rn hbf (sq_l ((k6.trans k9) _ _ not0 hD4)) ⟨_, rfl, ?_⟩
        by_cases e : r ∈ hs.flatten
        · rw [decide_eq_true e, if_neg (by decide)]
          exact hN0 (by simp [e]) _ (Kp.refl _ _)
        · rw [decide_eq_false e, if_pos (by decide)]
          refine ⟨by rw [sizeLine_eq]; decide, fun t nt => ?_⟩
          exact hN (by simp [e]) _ _ ⟨t, rfl, upd_same⟩ (Kp.new nt)
      · have k47 := k6.trans k7
        refine forL_src ?_
        try simp (maxSteps := 1000000) only [tSeq, tIfS, tTest, tOp, tUn, tCB, tCons, tNil, tVar, tC, rI0, rI, rU, rEq, rNe, tRet, tRetN, tAsg, gName, gSub, tBM, tBM0, tNext, tB, tNot, tAnd, tOr, tIf, tCall, tDrop, tBreak, tCont, L2.start, tDGet, sDPut, tTup, tLst, tDNewK, tRevL, rCat, rAppend, rPop, rSetL, tAndV, tOrV, tNotV, tSl, tPart, tNoPart, tM1, gTup, gCons, gNil, cxK, cxnK, List.map_cons, List.map_nil, List.length_cons, List.length_nil, List.replicate, List.cons_append, List.nil_append, List.append_nil, List.set_cons_zero, List.set_cons_succ, List.getElem?_cons_zero, List.getElem?_cons_succ, Option.some.injEq, V.ref.injEq, V.int.injEq, V.str.injEq, V.bl.injEq, V.ty.injEq, exists_eq_left', exists_eq_left, exists_and_left, List.cons.injEq, and_true, true_and, sc_ii, sc_ss, sc_bb, sc_ni, sc_in, sc_is, sc_si, sc_nn, decide_true, decide_false, reduceCtorEq, Bool.false_eq_true, if_true, if_false, ite_true, ite_false, exists_const, eq_self, false_and, and_false, or_false, false_or, exists_false, Evl.rLenS, rSum, wipe, tYes, exists_eq, exists_eq', rIxL, rIxT, rIxS, exists_and_right, gt_iff_lt, not_true_eq_false, not_false_eq_true, Bool.not_true, Bool.not_false, decide_eq_true_eq, Nat.reduceSub, Nat.reduceAdd, List.append_assoc, tChain, tDIn, tDNotIn, sDDel, tAug, ipI, rInt1_int, rInt1_bl]
        obtain ⟨va, rfl, hva⟩ := id hv4
        refine lcG (R := fun _ v x => v = V.str (nmL zs x)) (R2 := SDt zs) (fun _ _ _ _ _ h => h) (fun _ _ _ _ t h => h.tp t) (fun _ => true) (fun r => (false, r)) (src_tup (fun R q' => ⟨_, rfl, q'⟩) (sq_t (k47 _ _ not0 hva))) ht_rw (by omega) (fun v r H9 N N0 hr hv k9 hN hN0 => ?_) fun p2 us2 H8 np2 hp2 hr2 k8 => ?_
        · subst hv
          refine ⟨by simp [wipe], ?_⟩
          try simp (maxSteps := 1000000) only [tSeq, tIfS, tTest, tOp, tUn, tCB, tCons, tNil, tVar, tC, rI0, rI, rU, rEq, rNe, tRet, tRetN, tAsg, gName, gSub, tBM, tBM0, tNext, tB, tNot, tAnd, tOr, tIf, tCall, tDrop, tBreak, tCont, L2.start, tDGet, sDPut, tTup, tLst, tDNewK, tRevL, rCat, rAppend, rPop, rSetL, tAndV, tOrV, tNotV, tSl, tPart, tNoPart, tM1, gTup, gCons, gNil, cxK, cxnK, List.map_cons, List.map_nil, List.length_cons, List.length_nil, List.replicate, List.cons_append, List.nil_append, List.append_nil, List.set_cons_zero, List.set_cons_succ, List.getElem?_cons_zero, List.getElem?_cons_succ, Option.some.injEq, V.ref.injEq, V.int.injEq, V.str.injEq, V.bl.injEq, V.ty.injEq, exists_eq_left', exists_eq_left, exists_and_left, List.cons.injEq, and_true, true_and, sc_ii, sc_ss, sc_bb, sc_ni, sc_in, sc_is, sc_si, sc_nn, decide_true, decide_false, reduceCtorEq, Bool.false_eq_true, if_true, if_false, ite_true, ite_false, exists_const, eq_self, false_and, and_false, or_false, false_or, exists_false, Evl.rLenS, rSum, wipe, tYes, exists_eq, exists_eq', rIxL, rIxT, rIxS, exists_and_right, gt_iff_lt, not_true_eq_false, not_false_eq_true, Bool.not_true, Bool.not_false, decide_eq_true_eq, Nat.reduceSub, Nat.reduceAdd, List.append_assoc, tChain, tDIn, tDNotIn, sDDel, tAug, ipI, rInt1_int, rInt1_bl]
          refine ⟨by rw [sizeLine_eq]; decide, fun t nt => ?_⟩
          exact hN rfl _ _ ⟨t, rfl, upd_same⟩ (Kp.new nt)
        · have k48 := k47.trans k8
          have ef : (hdJ hs i).filter (fun _ => true) = hdJ hs i := List.filter_eq_self.mpr fun _ _ => rfl
          rw [ef] at hr2
          refine ⟨p2, rfl, us1, k8 _ _ not0 hp1, us2, hp2, by rw [hr1.len, hr2.len, List.length_map, List.length_map]; exact small (by have := List.length_filter_le (fun r => !decide (r ∈ hs.flatten)) (mayR es (hdJ hs i)); have := may_len (h := hdJ hs i) EO hes; omega), fun p np => ?_⟩
          have kp := (Kp.new np : Kp [] H8 (upd H8 p (.lst (us1 ++ us2))))
          have hp : (upd H8 p (.lst (us1 ++ us2))) p = some (.lst (us1 ++ us2)) := upd_same
          generalize upd H8 p (.lst (us1 ++ us2)) = H9 at kp hp ⊢
          have k49 := k48.trans kp
          have hrs : Rw (SDt zs H9) (us1 ++ us2) (stepsJ es hs i) := (hr1.mono fun _ _ z => (z.tp k8.tps).tp kp.tps).app (hr2.mono fun _ _ z => z.tp kp.tps)
          have hC9 := hC4.mv k49
          have hD9 := k49 _ _ not0 hD4
          have hv9 := hv4.tp k49.tps
          have t9 := t4.trans k49.tps
          obtain ⟨us4, hf4, _⟩ := id (hC4.mv k48).fd
          have pfl : p ≠ cp.fl := fun z => by rw [z, hf4] at np; cases np
          refine forLC (fun j σ H' => ∃ c8, ∃ c9, σ = [some (.ref o), some (.ref ua), some (.ref D), some (.ref va), c4, some (.int (i : Nat)), some (.ref p1), c8, c9] ∧ CiAt P w RC CC cp Hb H' o zs es (Bij i j) none ∧ H' D = some (.lst ((nmH zs hs.flatten).map V.str)) ∧ H' p = some (.lst (us1 ++ us2)) ∧ Tp H9 H') (sq_l hp) ⟨_, _, rfl, hC9, hD9, hp, Tp.refl _⟩ (fun j σ H' _ h => by obtain ⟨_, _, _, _, _, h, _⟩ := h; exact sq_l h) ?_ ?_
          · rintro j x σ H10 hx ⟨c8, c9, rfl, hC10, hD10, hp10, t10⟩
            obtain ⟨y, ey, hy⟩ := hrs.get hx
            obtain ⟨xa, rfl, hxa⟩ := id (hy.tp t10)
            obtain ⟨sv10, ho10, hsv10⟩ := id hC10.ob
            have hll10 : H10 cp.ll = some (.lst (zs.map V.str)) := hC10.kp _ _ (not1 fun z => by have := hC10.bo; rw [← z, hC10.lk] at this; cases this) hC10.lk
            have ok : OkJ es hs (i, y) := ⟨hi, List.mem_of_getElem? ey⟩
            have yn : y.2 < zs.length := ok_lt n3 n1 hes hal ok
            have hua10 : H10 ua = some (.tup hus) := t10 _ _ (t9 _ _ hua)
            try simp (maxSteps := 1000000) only [tSeq, tIfS, tTest, tOp, tUn, tCB, tCons, tNil, tVar, tC, rI0, rI, rU, rEq, rNe, tRet, tRetN, tAsg, gName, gSub, tBM, tBM0, tNext, tB, tNot, tAnd, tOr, tIf, tCall, tDrop, tBreak, tCont, L2.start, tDGet, sDPut, tTup, tLst, tDNewK, tRevL, rCat, rAppend, rPop, rSetL, tAndV, tOrV, tNotV, tSl, tPart, tNoPart, tM1, gTup, gCons, gNil, cxK, cxnK, List.map_cons, List.map_nil, List.length_cons, List.length_nil, List.replicate, List.cons_append, List.nil_append, List.append_nil, List.set_cons_zero, List.set_cons_succ, List.getElem?_cons_zero, List.getElem?_cons_succ, Option.some.injEq, V.ref.injEq, V.int.injEq, V.str.injEq, V.bl.injEq, V.ty.injEq, exists_eq_left', exists_eq_left, exists_and_left, List.cons.injEq, and_true, true_and, sc_ii, sc_ss, sc_bb, sc_ni, sc_in, sc_is, sc_si, sc_nn, decide_true, decide_false, reduceCtorEq, Bool.false_eq_true, if_true, if_false, ite_true, ite_false, exists_const, eq_self, false_and, and_false, or_false, false_or, exists_false, Evl.rLenS, rSum, wipe, tYes, exists_eq, exists_eq', rIxL, rIxS, exists_and_right, gt_iff_lt, not_true_eq_false, not_false_eq_true, Bool.not_true, Bool.not_false, decide_eq_true_eq, Nat.reduceSub, Nat.reduceAdd, List.append_assoc, tChain, tDIn, tDNotIn, sDDel, tAug, ipI, rInt1_int, rInt1_bl, tFld]
            refine slA_to rfl hua10 fun r1 H11 hr1 k11 => ?_
            try simp (maxSteps := 1000000) only [tSeq, tIfS, tTest, tOp, tUn, tCB, tCons, tNil, tVar, tC, rI0, rI, rU, rEq, rNe, tRet, tRetN, tAsg, gName, gSub, tBM, tBM0, tNext, tB, tNot, tAnd, tOr, tIf, tCall, tDrop, tBreak, tCont, L2.start, tDGet, sDPut, tTup, tLst, tDNewK, tRevL, rCat, rAppend, rPop, rSetL, tAndV, tOrV, tNotV, tSl, tPart, tNoPart, tM1, gTup, gCons, gNil, cxK, cxnK, List.map_cons, List.map_nil, List.length_cons, List.length_nil, List.replicate, List.cons_append, List.nil_append, List.append_nil, List.set_cons_zero, List.set_cons_succ, List.getElem?_cons_zero, List.getElem?_cons_succ, Option.some.injEq, V.ref.injEq, V.int.injEq, V.str.injEq, V.bl.injEq, V.ty.injEq, exists_eq_left', exists_eq_left, exists_and_left, List.cons.injEq, and_true, true_and, sc_ii, sc_ss, sc_bb, sc_ni, sc_in, sc_is, sc_si, sc_nn, decide_true, decide_false, reduceCtorEq, Bool.false_eq_true, if_true, if_false, ite_true, ite_false, exists_const, eq_self, false_and, and_false, or_false, false_or, exists_false, Evl.rLenS, rSum, wipe, tYes, exists_eq, exists_eq', rIxL, rIxT, rIxS, exists_and_right, gt_iff_lt, not_true_eq_false, not_false_eq_true, Bool.not_true, Bool.not_false, decide_eq_true_eq, Nat.reduceSub, Nat.reduceAdd, List.append_assoc, tChain, tDIn, tDNotIn, sDDel, tAug, ipI, rInt1_int, rInt1_bl, tFld]
            have hua11 := k11 _ _ not0 hua10
            refine ⟨_, sq_t (k11 _ _ not0 hxa), _, rfl, CC, cp.dx, _, k11 _ _ not0 ho10, C.cl, C.n2, .ref cp.ll, rfl, ?_⟩
            refine ⟨.ref va, cp.ll, zs, y.2, hdJ hs i, rfl, L, yn, (hv9.tp t10).tp k11.tps, hbi, by omega, .inl (sq_l (k11 _ _ not0 hll10)), fun v' H12 hv12 k12 => ?_⟩
            refine ⟨by rw [sizeLine_eq]; decide, fun r2 nr2 => ?_⟩
            have kr2 := (Kp.new nr2 : Kp [] H12 (upd H12 r2 (.tup [v'])))
            have hr2' : (upd H12 r2 (.tup [v'])) r2 = some (.tup [v']) := upd_same
            have hv13 := hv12.tp kr2.tps
            generalize upd H12 r2 (.tup [v']) = H13 at kr2 hr2' hv13 ⊢
            have k13 := k12.trans kr2
            have lk : (hus.take i).length ≤ 3 := by rw [List.length_take]; omega
            refine catA_use (k13 _ _ not0 hr1) hr2' (by rw [List.length_singleton]; omega) fun r3 H14 hr3 k14 => ?_
            have k1_14 := (k11.trans k13).trans k14
            refine slA_from (k := i + 1) rfl (k1_14 _ _ not0 hua10) fun r4 H15 hr4 k15 => ?_
            refine catA_use (k15 _ _ not0 hr3) hr4 (by rw [List.length_append, List.length_singleton, List.length_drop]; omega) fun r5 H16 hr5 k16 => ?_
            have k17 := (k1_14.trans k15).trans k16
            rw [set_parts (by rw [lus]; exact hi)] at hr5
            have t16 := t10.trans k17.tps
            have t016 : Tp H H16 := t9.trans t16
            have hgo : JT zs H16 (.ref r5) (goJ zs.length hs (i, y)) := ⟨r5, _, rfl, hr5, (hru.mono fun _ _ z => HT.tp z t016).set i (hv13.tp (k14.trans (k15.trans k16)).tps)⟩
            have hC16 := hC10.mv k17
            obtain ⟨us16, hf16, hfr16⟩ := id hC16.fd
            obtain ⟨kvs, hdk, hkk, hbk⟩ := id hC16.bk
            obtain ⟨sv16, ho16, _⟩ := id hC16.ob
            obtain ⟨GB1, hm1⟩ := GBij i j hi
            have keyA : keyJ zs (goJ zs.length hs (i, y)) ∈ kvs.map (·.1) ↔ goJ zs.length hs (i, y) ∈ keysB (Bij i j) := by
              rw [hkk, List.mem_map]
              constructor
              · rintro ⟨g, hg, e⟩
                rw [← keyJ_inj L (all_below n3 n1 (rch_all n3 n1 (by omega) hes (gb_mem GB1 hg))) (all_below n3 n1 (go_all n3 n1 (by omega) hes hal ok)) e]
                exact hg
              · exact fun h => ⟨_, h, rfl⟩
            try simp (maxSteps := 1000000) only [tSeq, tIfS, tTest, tOp, tUn, tCB, tCons, tNil, tVar, tC, rI0, rI, rU, rEq, rNe, tRet, tRetN, tAsg, gName, gSub, tBM, tBM0, tNext, tB, tNot, tAnd, tOr, tIf, tCall, tDrop, tBreak, tCont, L2.start, tDGet, sDPut, tTup, tLst, tDNewK, tRevL, rCat, rAppend, rPop, rSetL, tAndV, tOrV, tNotV, tSl, tPart, tNoPart, tM1, gTup, gCons, gNil, cxK, cxnK, List.map_cons, List.map_nil, List.length_cons, List.length_nil, List.replicate, List.cons_append, List.nil_append, List.append_nil, List.set_cons_zero, List.set_cons_succ, List.getElem?_cons_zero, List.getElem?_cons_succ, Option.some.injEq, V.ref.injEq, V.int.injEq, V.str.injEq, V.bl.injEq, V.ty.injEq, exists_eq_left', exists_eq_left, exists_and_left, List.cons.injEq, and_true, true_and, sc_ii, sc_ss, sc_bb, sc_ni, sc_in, sc_is, sc_si, sc_nn, decide_true, decide_false, reduceCtorEq, Bool.false_eq_true, if_true, if_false, ite_true, ite_false, exists_const, eq_self, false_and, and_false, or_false, false_or, exists_false, Evl.rLenS, rSum, wipe, tYes, exists_eq, exists_eq', rIxL, rIxT, rIxS, exists_and_right, gt_iff_lt, not_true_eq_false, not_false_eq_true, Bool.not_true, Bool.not_false, decide_eq_true_eq, Nat.reduceSub, Nat.reduceAdd, List.append_assoc, tChain, tDIn, tDNotIn, sDDel, tAug, ipI, rInt1_int, rInt1_bl, tFld, tNNotIn, sNPut]
            refine ⟨CC, cp.dx, _, ho16, C.cl, C.n4, .ref cp.bl, rfl, cp.bl, rfl, kvs, hdk, _, hgo.key, ?_⟩
            rw [valN_isK]
            have hD16 := k17 _ _ not0 hD10
            have hp16 := k17 _ _ not0 hp10
            by_cases hin : goJ zs.length hs (i, y) ∈ keysB (Bij i j)
            · rw [decide_eq_true (keyA.mpr hin), if_neg (by decide)]
              refine ⟨?_, hD16, hp16, t16⟩
              rw [Bst i j y ey]
              unfold addB
              rw [if_pos hin]
              exact hC16
            · rw [decide_eq_false (fun z => hin (keyA.mp z)), if_pos (by decide)]
              refine ⟨by rw [sizeLine_eq]; decide, fun bt nbt => ?_⟩
              have kb := (Kp.new nbt : Kp [] H16 (upd H16 bt (.tup [.ref ua, .int (i : Nat), .ref xa])))
              have hbt : (upd H16 bt (.tup [.ref ua, .int (i : Nat), .ref xa])) bt = some (.tup [.ref ua, .int (i : Nat), .ref xa]) := upd_same
              generalize upd H16 bt (.tup [.ref ua, .int (i : Nat), .ref xa]) = H17 at kb hbt ⊢
              have hC17 := hC16.mv kb
              have t17 := t16.trans kb.tps
              have hf17 := kb _ _ not0 hf16
              have hfr17 := hfr16.mono fun _ _ z => JT.tp z kb.tps
              have hdk17 := dn_kp hdk kb
              have hbk17 := hbk.mono fun _ _ z => BV.tp z kb.tps
              have hgo17 := hgo.tp kb.tps
              have lB := gb_len n3 n1 (by omega) hes GB1
              have lk : kvs.length ≤ 64 := by
                have e := congrArg List.length hkk
                rw [List.length_map, List.length_map, List.length_map] at e
                omega
              have lu : us16.length ≤ 64 := by
                rw [hfr16.len, List.length_map]
                exact lB
              refine ⟨CC, cp.dx, _, kb _ _ not0 ho16, C.cl, C.n4, .ref cp.bl, rfl, cp.bl, rfl, kvs, hdk17, _, hgo17.key, smallL (by omega), fun ob hob => ?_⟩
              obtain ⟨a1, a2, a3⟩ := hC17.add hdk17 hkk hbk17 hf17 hfr17 (fun z => hin (keyA.mp z)) hgo17 (x := some (hs, i, y)) ⟨bt, _, _, rfl, hbt, (hJ.tp t9).tp t17, (hy.tp t10).tp (k17.trans kb).tps⟩ hob
              have nD2 : D ≠ cp.bl := fun z => by have := dn_nl hdk17 (kb _ _ not0 hD16); exact this z
              have np2 : p ≠ cp.bl := fun z => by have := dn_nl hdk17 (kb _ _ not0 hp16); exact this z
              have obl : o ≠ cp.bl := fun z => by have := hC17.bo; rw [z, hC17.bb] at this; cases this
              refine ⟨CC, cp.dx, _, by rw [upd_ne obl]; exact kb _ _ not0 ho16, C.cl, C.n3, .ref cp.fl, rfl, .inl ⟨rfl, _, sq_l a1⟩, cp.fl, rfl, us16, a1, smallL (by omega), ?_, by rw [upd_ne Dfl, upd_ne nD2]; exact kb _ _ not0 hD16, by rw [upd_ne pfl, upd_ne np2]; exact kb _ _ not0 hp16, t17.trans a3⟩
              rw [Bst i j y ey]
              unfold addB
              rw [if_neg hin]
              exact a2
          · rintro σ H10 ⟨c8, c9, rfl, hC10, hD10, hp10, t10⟩
            have el : (us1 ++ us2).length = (stepsJ es hs i).length := hrs.len
            rw [el, Bnx] at hC10
            exact ⟨⟨_, _, _, _, _, _, rfl⟩, hC10, hD10, t9.trans t10⟩
    · rintro σ H3 ⟨c3, c4, c5, c6, c7, c8, rfl, hC3, hD3, t3⟩
      try simp (maxSteps := 1000000) only [tSeq, tIfS, tTest, tOp, tUn, tCB, tCons, tNil, tVar, tC, rI0, rI, rU, rEq, rNe, tRet, tRetN, tAsg, gName, gSub, tBM, tBM0, tNext, tB, tNot, tAnd, tOr, tIf, tCall, tDrop, tBreak, tCont, L2.start, tDGet, sDPut, tTup, tLst, tDNewK, tRevL, rCat, rAppend, rPop, rSetL, tAndV, tOrV, tNotV, tSl, tPart, tNoPart, tM1, gTup, gCons, gNil, cxK, cxnK, List.map_cons, List.map_nil, List.length_cons, List.length_nil, List.replicate, List.cons_append, List.nil_append, List.append_nil, List.set_cons_zero, List.set_cons_succ, List.getElem?_cons_zero, List.getElem?_cons_succ, Option.some.injEq, V.ref.injEq, V.int.injEq, V.str.injEq, V.bl.injEq, V.ty.injEq, exists_eq_left', exists_eq_left, exists_and_left, List.cons.injEq, and_true, true_and, sc_ii, sc_ss, sc_bb, sc_ni, sc_in, sc_is, sc_si, sc_nn, decide_true, decide_false, reduceCtorEq, Bool.false_eq_true, if_true, if_false, ite_true, ite_false, exists_const, eq_self, false_and, and_false, or_false, false_or, exists_false, Evl.rLenS, rSum, wipe, tYes, exists_eq, exists_eq', rIxL, rIxT, rIxS, exists_and_right, gt_iff_lt, not_true_eq_false, not_false_eq_true, Bool.not_true, Bool.not_false, decide_eq_true_eq, Nat.reduceSub, Nat.reduceAdd, List.append_assoc, tChain, tDIn, tDNotIn, sDDel, tAug, ipI, rInt1_int, rInt1_bl]
      rw [lus, Bfin] at hC3
      exact q H3 hC3
end
end My

set_option Elab.async false
set_option linter.all false
set_option maxRecDepth 100000
set_option maxHeartbeats 4000000
namespace My
open PySem L2 NdefX
section
variable {P : Program} {w : World} {K : PySem.W.Frag} {mg : Str → Option Value} {base : Heap} {RC CC : Addr}
/-- what the search of a circle found -/
def CiEnd (n m : Nat) (es : List En) (B : List Bk) : Option Jt → Prop
  | some hs => hs ∈ keysB B ∧ stuckJ es hs = true
  | none => ∀ hs, RchJ n m es hs → stuckJ es hs = false
def WCi (P : Program) (w : World) (RC CC : Addr) (c : CirP) (Hb H0 : Hp) (o : Addr) (zs : List Str) (es : List En) (m : Nat) (x1 x3 : V) (k : Nat) (σ : L2.St) (H : Hp) : Prop := ∃ (a : Nat) (B : List Bk) (st : Option Jt) (c4 : Option V), σ = [some (.ref o), some x1, some (.int (m : Nat)), some x3, c4, some (.int (a : Nat))] ∧
  CiAt P w RC CC c Hb H o zs es B st ∧ GB zs.length m es B ∧ (st = none → CloB zs.length es B a ∧ k = 65 - a) ∧ (∀ hs, st = some hs → hs ∈ keysB B ∧ stuckJ es hs = true ∧ k = 0) ∧ Kp [o] H0 H
def spCiI (P : Program) (w : World) (RC CC : Addr) : Sp := fun vs H Q _ => ∃ (o dx ro : Addr) (zs : List Str) (es : List En) (m : Nat), vs = [.ref o, .ref ro, .int (m : Nat)] ∧ H o = some (.ins CC dx []) ∧ RuAt RC H ro zs es ∧ 1 ≤ m ∧ m ≤ 3 ∧
  ∀ (c : CirP) (Hb H' : Hp) (B : List Bk) (st : Option Jt), CiAt P w RC CC c Hb H' o zs es B st → GB zs.length m es B → CiEnd zs.length m es B st → Kp [o] H H' → Q .non H'
theorem ok_Circle_init {f : Addr} {fd : FuncData} (F : Fun K "__init__" "Circle.__init__" s_Circle_init f fd) (T : BtC mg) (C : CiC K mg CC) (RR : RuC K mg RC) (ne : CC ≠ RC)
    {f1 : Addr} {fd1 : FuncData} (ME_Rule_locks : Meth K RC "locks" f1) (bM_Rule_locks : Binds K fd1 ["self"] []) (G_Rule_locks : FnOk P w K mg base CX0 1 f1 fd1 ["self"] (spRuL RC))
    {f2 : Addr} {fd2 : FuncData} (ME_Circle_look : Meth K CC "_look" f2) (bM_Circle_look : Binds K fd2 ["self", "helds"] []) (G_Circle_look : FnOk P w K mg base CX0 7 f2 fd2 ["self", "helds"] (spLook P w RC CC)) :
    FnOk P w K mg base CX0 8 f fd ["self", "rule", "many"] (spCiI P w RC CC) := by
  refine F.ok sc_Circle_init (fun vs H Q E h => ?_) (fun cdv A outer s H vs Q E hr h => ?_)
  · obtain ⟨_, _, _, _, _, _, rfl, _⟩ := h
    rfl
  · obtain ⟨o, dx, ro, zs, es, m, rfl, ho, hR, m1, m3, q⟩ := h
    have hu := hu_of hr
    obtain ⟨_, _, _, _, _, _, _, _, L, hes⟩ := id hR
    have n1 := L.pos
    have n3 : zs.length < 4 := by have := L.le; omega
    refine ⟨_, (pss_cons (ps_fld (pv 0) (pv 1) rfl)
      (pss_cons (ps_fld (pv 0) (pe_meth0 (pv 1) RR.cl ME_Rule_locks G_Rule_locks (hr.mono (by decide)) bM_Rule_locks .nil pass0) rfl)
      (pss_cons (ps_set (i := 3) sc_Circle_init.nd rfl (Or.inl rfl) (pe_callTy call_tuple_of (by rfl) T.b_tuple (by decide +kernel) (pa_cons (pe_lc (own := [("_", 4)]) (g := (gName 4)) (tt := tYes) rfl sc_Circle_init.nd (pi_range1 rfl T.b_range (pa_cons (pv 2) pa_nil)) (blkOk_by (N := ["self", "rule", "many", "first", "_", "at"]) (sc := defScope s_Circle_init) (by decide +kernel)) (fun _ _ _ _ _ => (pg_name (i := 4) sc_Circle_init.nd rfl (Or.inl rfl))) (fun _ _ _ _ _ => pts_nil) (fun _ _ _ _ _ => (pe_tup pa_nil))) pa_nil)))
      (pss_cons (ps_fld (pv 0) (pe_lst (pa_cons (pv 3) pa_nil)) rfl)
      (pss_cons (ps_fld (pv 0) (pe_dispN hr.units (pv 3) pe_non) rfl)
      (pss_cons (ps_fld (pv 0) pe_non rfl)
      (pss_cons (ps_set (i := 5) sc_Circle_init.nd rfl (Or.inl rfl) pe_int)
      (pss_one (ps_while PassesOwn.never (PW.pt (pw_and (pt_cmpR op_lt (pv 5) (pe_callB (id := "len") (r := Evl.rLenS K) call_len_seq (by rfl) T.b_len PySem.boot_len (pa_cons (pe_fld (pv 0) rfl) pa_nil)) (nomark _)) (pw_and1 (pt_cmpR op_isN (pe_fld (pv 0) rfl) pe_non (nomark _))))) (pss_cons (ps_expr (pe_meth (pv 0) C.cl ME_Circle_look G_Circle_look (hr.mono (by decide)) bM_Circle_look .nil pass0 (pa_cons (pe_ix (r := rIxL K) ix_list (pe_fld (pv 0) rfl) (pv 5) (fun _ _ => rfl)) pa_nil)))
      (pss_one (ps_aug (i := 5) sc_Circle_init.nd rfl (Or.inl rfl) pe_int ip_add)))))))))))), ?_⟩
    try simp (maxSteps := 1000000) only [tSeq, tIfS, tTest, tOp, tUn, tCB, tCons, tNil, tVar, tC, rI0, rI, rU, rEq, rNe, tRet, tRetN, tAsg, gName, gSub, tBM, tBM0, tNext, tB, tNot, tAnd, tOr, tIf, tCall, tDrop, tBreak, tCont, L2.start, tDGet, sDPut, tTup, tLst, tDNewK, tRevL, rCat, rAppend, rPop, rSetL, tAndV, tOrV, tNotV, tSl, tPart, tNoPart, tM1, gTup, gCons, gNil, cxK, cxnK, List.map_cons, List.map_nil, List.length_cons, List.length_nil, List.replicate, List.cons_append, List.nil_append, List.append_nil, List.set_cons_zero, List.set_cons_succ, List.getElem?_cons_zero, List.getElem?_cons_succ, Option.some.injEq, V.ref.injEq, V.int.injEq, V.str.injEq, V.bl.injEq, V.ty.injEq, exists_eq_left', exists_eq_left, exists_and_left, List.cons.injEq, and_true, true_and, sc_ii, sc_ss, sc_bb, sc_ni, sc_in, sc_is, sc_si, sc_nn, decide_true, decide_false, reduceCtorEq, Bool.false_eq_true, if_true, if_false, ite_true, ite_false, exists_const, eq_self, false_and, and_false, or_false, false_or, exists_false, Evl.rLenS, rSum, wipe, tYes, exists_eq, exists_eq', rIxL, rIxT, rIxS, exists_and_right, gt_iff_lt, not_true_eq_false, not_false_eq_true, Bool.not_true, Bool.not_false, decide_eq_true_eq, Nat.reduceSub, Nat.reduceAdd, List.append_assoc, tChain, tDIn, tDNotIn, sDDel, tAug, ipI, rInt1_int, rInt1_bl, tMeth, tFld, sFld, tDispN]
    refine ⟨CC, dx, _, ho, C.cl, C.n1, by decide, ?_⟩
    have kw : Kp [o] H (upd H o (.ins CC dx (putF "_rule" (.ref ro) []))) := (Kp.refl [o] _).put List.mem_cons_self
    have ho1 : (upd H o (.ins CC dx (putF "_rule" (.ref ro) []))) o = some (.ins CC dx [("_rule", .ref ro)]) := upd_same
    have hR1 := ru_of (CC := CC) hR ho ne kw
    generalize upd H o (.ins CC dx (putF "_rule" (.ref ro) [])) = H1 at kw ho1 hR1 ⊢
    obtain ⟨dxr, _, _, _, hro1, _⟩ := id hR1
    refine ⟨dxr, _, hro1, rfl, ro, zs, es, rfl, hR1, fun ll H2 nll hll k2 => ?_⟩
    have ho2 := k2 _ _ not0 ho1
    have hR2 := hR1.kp k2
    refine ⟨CC, dx, _, ho2, C.cl, C.n2, by show 1 < 1000; decide, ?_⟩
    have kw2 : Kp [o] H2 (upd H2 o (.ins CC dx (putF "_locks" (.ref ll) [("_rule", .ref ro)]))) := (Kp.refl [o] _).put List.mem_cons_self
    have ho3 : (upd H2 o (.ins CC dx (putF "_locks" (.ref ll) [("_rule", .ref ro)]))) o = some (.ins CC dx [("_rule", .ref ro), ("_locks", .ref ll)]) := upd_same
    have hR3 := ru_of (CC := CC) hR2 ho2 ne kw2
    have hll3 := kw2 _ _ (not1 fun z => by rw [z, ho2] at hll; cases hll) hll
    have k03 : Kp [o] H (upd H2 o (.ins CC dx (putF "_locks" (.ref ll) [("_rule", .ref ro)]))) := (kw.trans k2.of0).trans kw2
    generalize upd H2 o (.ins CC dx (putF "_locks" (.ref ll) [("_rule", .ref ro)])) = H3 at k03 ho3 hR3 hll3 ⊢
    refine lcRgF m (by omega) (HT zs) (fun _ => []) (fun _ _ _ _ t h => h.tp t) (by simp) (fun R h => ⟨_, rfl, h⟩) (fun i H' Q' hi k hQ => ?_) fun D us H4 nD hD hrw k4 => ?_
    · try simp (maxSteps := 1000000) only [tSeq, tIfS, tTest, tOp, tUn, tCB, tCons, tNil, tVar, tC, rI0, rI, rU, rEq, rNe, tRet, tRetN, tAsg, gName, gSub, tBM, tBM0, tNext, tB, tNot, tAnd, tOr, tIf, tCall, tDrop, tBreak, tCont, L2.start, tDGet, sDPut, tTup, tLst, tDNewK, tRevL, rCat, rAppend, rPop, rSetL, tAndV, tOrV, tNotV, tSl, tPart, tNoPart, tM1, gTup, gCons, gNil, cxK, cxnK, List.map_cons, List.map_nil, List.length_cons, List.length_nil, List.replicate, List.cons_append, List.nil_append, List.append_nil, List.set_cons_zero, List.set_cons_succ, List.getElem?_cons_zero, List.getElem?_cons_succ, Option.some.injEq, V.ref.injEq, V.int.injEq, V.str.injEq, V.bl.injEq, V.ty.injEq, exists_eq_left', exists_eq_left, exists_and_left, List.cons.injEq, and_true, true_and, sc_ii, sc_ss, sc_bb, sc_ni, sc_in, sc_is, sc_si, sc_nn, decide_true, decide_false, reduceCtorEq, Bool.false_eq_true, if_true, if_false, ite_true, ite_false, exists_const, eq_self, false_and, and_false, or_false, false_or, exists_false, Evl.rLenS, rSum, wipe, tYes, exists_eq, exists_eq', rIxL, rIxT, rIxS, exists_and_right, gt_iff_lt, not_true_eq_false, not_false_eq_true, Bool.not_true, Bool.not_false, decide_eq_true_eq, Nat.reduceSub, Nat.reduceAdd, List.append_assoc, tChain, tDIn, tDNotIn, sDDel, tAug, ipI, rInt1_int, rInt1_bl]
      exact ⟨Nat.zero_le _, fun e ne => hQ _ _ (HT.of upd_same) (Kp.new ne)⟩
    have erep : (List.range m).map (fun _ => ([] : Hd)) = List.replicate m [] := by
      refine List.eq_replicate_iff.mpr ⟨by simp, fun b hb => ?_⟩
      obtain ⟨_, _, e⟩ := List.mem_map.mp hb
      exact e.symm
    rw [erep] at hrw
    refine ⟨D, rfl, us, .inl ⟨sq_l hD, fun ft nft => ⟨by rw [sizeLine_eq]; decide, fun fl nfl => ?_⟩⟩⟩
    have k5 := k4.trans (Kp.new nft (o := .tup us))
    have hJ5 : JT zs (upd H4 ft (.tup us)) (.ref ft) (List.replicate m []) := ⟨ft, us, rfl, upd_same, hrw.mono fun _ _ z => HT.tp z (Kp.new nft (S := []) (o := .tup us)).tps⟩
    generalize upd H4 ft (.tup us) = H5 at k5 hJ5 nfl ⊢
    have ho5 := k5 _ _ not0 ho3
    have hR5 := hR3.kp k5
    have hll5 := k5 _ _ not0 hll3
    have kf := (Kp.new nfl : Kp [] H5 (upd H5 fl (.lst [.ref ft])))
    have hfl6 : (upd H5 fl (.lst [.ref ft])) fl = some (.lst [.ref ft]) := upd_same
    generalize upd H5 fl (.lst [.ref ft]) = H6 at kf hfl6 ⊢
    have ho6 := kf _ _ not0 ho5
    refine ⟨CC, dx, _, ho6, C.cl, C.n3, by show 2 < 1000; decide, fun bl nbl => ?_⟩
    have ofl : fl ≠ o := fun z => by rw [z, ho5] at nfl; cases nfl
    have kw6 : Kp [o] H6 (upd H6 o (.ins CC dx (putF "_found" (.ref fl) [("_rule", .ref ro), ("_locks", .ref ll)]))) := (Kp.refl [o] _).put List.mem_cons_self
    have ho7 : (upd H6 o (.ins CC dx (putF "_found" (.ref fl) [("_rule", .ref ro), ("_locks", .ref ll)]))) o = some (.ins CC dx [("_rule", .ref ro), ("_locks", .ref ll), ("_found", .ref fl)]) := upd_same
    have hfl7 : (upd H6 o (.ins CC dx (putF "_found" (.ref fl) [("_rule", .ref ro), ("_locks", .ref ll)]))) fl = some (.lst [.ref ft]) := by rw [upd_ne ofl]; exact hfl6
    have t7 : Tp H6 (upd H6 o (.ins CC dx (putF "_found" (.ref fl) [("_rule", .ref ro), ("_locks", .ref ll)]))) := (Tp.refl _).putI ho6
    generalize upd H6 o (.ins CC dx (putF "_found" (.ref fl) [("_rule", .ref ro), ("_locks", .ref ll)])) = H7 at kw6 ho7 hfl7 t7 nbl ⊢
    have k57 : Kp [o] H5 H7 := kf.of0.trans kw6
    have nbl5 : H5 bl = none := by
      cases e : H5 bl with
      | none => rfl
      | some x =>
        by_cases z : bl = o
        · rw [z, ho7] at nbl; cases nbl
        · have := k57 _ _ (not1 z) e
          rw [nbl] at this; cases this
    have hJ7 := hJ5.tp (kf.tps.trans t7)
    have bfl : fl ≠ bl := fun z => by rw [z, nbl] at hfl7; cases hfl7
    have kd := (Kp.new nbl : Kp [] H7 (upd H7 bl (.dK [])))
    have hbl8 : (upd H7 bl (.dK [])) bl = some (.dK []) := upd_same
    generalize upd H7 bl (.dK []) = H8 at kd hbl8 ⊢
    refine ⟨hbl8, _, (hJ7.tp kd.tps).key, fun ob hob => ?_⟩
    have hob8 : (upd H8 bl ob) o = some (.ins CC dx [("_rule", .ref ro), ("_locks", .ref ll), ("_found", .ref fl)]) := by
      rw [upd_ne (fun z => by rw [z] at ho7; rw [nbl] at ho7; cases ho7)]
      exact kd _ _ not0 ho7
    have obl : bl ≠ o := fun z => by rw [z, ho7] at nbl; cases nbl
    have kB : Kp [o] H5 (upd H8 bl ob) := (k57.trans kd.of0).wr nbl5
    have hfl9 : (upd H8 bl ob) fl = some (.lst [.ref ft]) := by
      rw [upd_ne bfl]
      exact kd _ _ not0 hfl7
    have t9 : Tp H5 (upd H8 bl ob) := fun b xs e => kB _ _ (not1 fun z => by rw [z, ho5] at e; cases e) e
    generalize upd H8 bl ob = H9 at hob hob8 kB hfl9 t9 ⊢
    refine ⟨CC, dx, _, hob8, C.cl, C.n4, by show 3 < 1000; decide, ?_⟩
    have kw9 : Kp [o] H9 (upd H9 o (.ins CC dx (putF "_back" (.ref bl) [("_rule", .ref ro), ("_locks", .ref ll), ("_found", .ref fl)]))) := (Kp.refl [o] _).put List.mem_cons_self
    have ho10 : (upd H9 o (.ins CC dx (putF "_back" (.ref bl) [("_rule", .ref ro), ("_locks", .ref ll), ("_found", .ref fl)]))) o = some (.ins CC dx [("_rule", .ref ro), ("_locks", .ref ll), ("_found", .ref fl), ("_back", .ref bl)]) := upd_same
    have hd10 := dn_wI (ob := .ins CC dx (putF "_back" (.ref bl) [("_rule", .ref ro), ("_locks", .ref ll), ("_found", .ref fl)])) hob hob8 obl
    have hfl10 := kw9 _ _ (not1 ofl) hfl9
    have t10 : Tp H9 (upd H9 o (.ins CC dx (putF "_back" (.ref bl) [("_rule", .ref ro), ("_locks", .ref ll), ("_found", .ref fl)]))) := (Tp.refl _).putI hob8
    generalize upd H9 o (.ins CC dx (putF "_back" (.ref bl) [("_rule", .ref ro), ("_locks", .ref ll), ("_found", .ref fl)])) = H10 at kw9 ho10 hd10 hfl10 t10 ⊢
    refine ⟨CC, dx, _, ho10, C.cl, C.n5, by show 4 < 1000; decide, ?_⟩
    have kw10 : Kp [o] H10 (upd H10 o (.ins CC dx (putF "stuck_at" .non [("_rule", .ref ro), ("_locks", .ref ll), ("_found", .ref fl), ("_back", .ref bl)]))) := (Kp.refl [o] _).put List.mem_cons_self
    have ho11 : (upd H10 o (.ins CC dx (putF "stuck_at" .non [("_rule", .ref ro), ("_locks", .ref ll), ("_found", .ref fl), ("_back", .ref bl)]))) o = some (.ins CC dx [("_rule", .ref ro), ("_locks", .ref ll), ("_found", .ref fl), ("_back", .ref bl), ("stuck_at", .non)]) := upd_same
    have hd11 := dn_wI (ob := .ins CC dx (putF "stuck_at" .non [("_rule", .ref ro), ("_locks", .ref ll), ("_found", .ref fl), ("_back", .ref bl)])) hd10 ho10 obl
    have hfl11 := kw10 _ _ (not1 ofl) hfl10
    have t11 : Tp H10 (upd H10 o (.ins CC dx (putF "stuck_at" .non [("_rule", .ref ro), ("_locks", .ref ll), ("_found", .ref fl), ("_back", .ref bl)]))) := (Tp.refl _).putI ho10
    generalize upd H10 o (.ins CC dx (putF "stuck_at" .non [("_rule", .ref ro), ("_locks", .ref ll), ("_found", .ref fl), ("_back", .ref bl)])) = H11 at kw10 ho11 hd11 hfl11 t11 ⊢
    have kB11 : Kp [o] H5 H11 := (kB.trans kw9).trans kw10
    have k011 : Kp [o] H H11 := (k03.trans k5.of0).trans kB11
    have tJ : Tp H5 H11 := (t9.trans t10).trans t11
    have hC : CiAt P w RC CC ⟨dx, ro, ll, fl, bl, _⟩ H5 H11 o zs es [(List.replicate m [], none)] none := ⟨ho5, hR5, hll5, nfl, nbl5, bfl, kB11, ⟨_, ho11, rfl⟩, ⟨_, hfl11, .cons (hJ5.tp tJ) .nil⟩, ⟨_, hd11, rfl, .cons rfl .nil⟩⟩
    generalize (⟨dx, ro, ll, fl, bl, _⟩ : CirP) = cp at hC
    refine ⟨WCi P w RC CC cp H5 H o zs es m (.ref ro) (.ref ft), ⟨65, 0, _, none, _, rfl, hC, gb_first, fun _ => ⟨fun i h => by omega, rfl⟩, (fun _ h => nomatch h), k011⟩, ?_⟩
    rintro k σ H12 ⟨a, B, st, c4, rfl, hC12, hG, hn, hs, k12⟩
    obtain ⟨sv, ho12, hsv⟩ := id hC12.ob
    obtain ⟨us12, hf12, hr12⟩ := id hC12.fd
    have lB := gb_len n3 n1 (by omega) hes hG
    have lu : us12.length = B.length := by rw [hr12.len, List.length_map]
    try simp (maxSteps := 1000000) only [tSeq, tIfS, tTest, tOp, tUn, tCB, tCons, tNil, tVar, tC, rI0, rI, rU, rEq, rNe, tRet, tRetN, tAsg, gName, gSub, tBM, tBM0, tNext, tB, tNot, tAnd, tOr, tIf, tCall, tDrop, tBreak, tCont, L2.start, tDGet, sDPut, tTup, tLst, tDNewK, tRevL, rCat, rAppend, rPop, rSetL, tAndV, tOrV, tNotV, tSl, tPart, tNoPart, tM1, gTup, gCons, gNil, cxK, cxnK, List.map_cons, List.map_nil, List.length_cons, List.length_nil, List.replicate, List.cons_append, List.nil_append, List.append_nil, List.set_cons_zero, List.set_cons_succ, List.getElem?_cons_zero, List.getElem?_cons_succ, Option.some.injEq, V.ref.injEq, V.int.injEq, V.str.injEq, V.bl.injEq, V.ty.injEq, exists_eq_left', exists_eq_left, exists_and_left, List.cons.injEq, and_true, true_and, sc_ii, sc_ss, sc_bb, sc_ni, sc_in, sc_is, sc_si, sc_nn, decide_true, decide_false, reduceCtorEq, Bool.false_eq_true, if_true, if_false, ite_true, ite_false, exists_const, eq_self, false_and, and_false, or_false, false_or, exists_false, Evl.rLenS, rSum, wipe, tYes, exists_eq, exists_eq', rIxL, rIxT, rIxS, exists_and_right, gt_iff_lt, not_true_eq_false, not_false_eq_true, Bool.not_true, Bool.not_false, decide_eq_true_eq, Nat.reduceSub, Nat.reduceAdd, List.append_assoc, tChain, tDIn, tDNotIn, sDDel, tAug, ipI, rInt1_int, rInt1_bl, tMeth, tFld]
    refine ⟨CC, cp.dx, _, ho12, C.cl, C.n3, .ref cp.fl, rfl, cp.fl, rfl, _, .inl (sq_l hf12), ?_⟩
    rw [lu]
    cases st with
    | some hs0 =>
      obtain ⟨hm0, sk0, rfl⟩ := hs hs0 rfl
      have qe := q cp H5 H12 B (some hs0) hC12 hG ⟨hm0, sk0⟩ k12
      have svn : sv ≠ .non := fun z => by
        obtain ⟨_, _, e, _⟩ := (show JT zs H12 sv hs0 from hsv)
        rw [z] at e; cases e
      by_cases lt : a < B.length
      · rw [if_pos (by omega)]
        refine ⟨CC, cp.dx, _, ho12, C.cl, C.n5, sv, rfl, ?_⟩
        rw [if_neg svn]
        exact qe
      · rw [if_neg (by omega)]
        exact qe
    | none =>
      obtain ⟨hclo, rfl⟩ := hn rfl
      by_cases lt : a < B.length
      · rw [if_pos (by omega)]
        have svn : sv = .non := hsv
        refine ⟨CC, cp.dx, _, ho12, C.cl, C.n5, sv, rfl, ?_⟩
        rw [if_pos svn]
        have eB := List.getElem?_eq_getElem lt
        obtain ⟨⟨hs1, x1⟩, e1⟩ : ∃ b, B[a] = b := ⟨_, rfl⟩
        rw [e1] at eB
        have eK : (keysB B)[a]? = some hs1 := keys_get.mpr ⟨_, eB⟩
        obtain ⟨v, ev, hv⟩ := hr12.at eK
        refine ⟨_, fun _ _ h => h, cp.dx, _, ho12, rfl, CC, cp.dx, _, ho12, C.cl, C.n3, .ref cp.fl, rfl, cp.fl, rfl, us12, sq_l hf12, v, atI_nat ev, ?_⟩
        have hkp : ∀ H', CiAt P w RC CC cp H5 H' o zs es B (some hs1) → Kp [o] H H' := fun H' h => (k03.trans k5.of0).trans h.kp
        refine ⟨o, v, cp, H5, zs, es, B, hs1, m, rfl, hC12, hv, List.mem_of_getElem? eK, hG, m1, m3, fun sk H' hC' => ?_, fun sk H' hC' => ?_⟩
        · exact ⟨0, by omega, a + 1, B, some hs1, c4, rfl, hC', hG, (fun z => nomatch z), fun g e => by cases e; exact ⟨List.mem_of_getElem? eK, sk, rfl⟩, (k03.trans k5.of0).trans hC'.kp⟩
        · obtain ⟨g1, g2, _⟩ := look_gb hG hclo eB sk
          exact ⟨65 - (a + 1), by omega, a + 1, _, none, c4, rfl, hC', g1, fun _ => ⟨g2, rfl⟩, (fun _ h => nomatch h), (k03.trans k5.of0).trans hC'.kp⟩
      · rw [if_neg (by omega)]
        exact q cp H5 H12 B none hC12 hG (fun g hg => fin_gb hG hclo (by omega) hg) k12
end
end My

set_option Elab.async false
set_option linter.all false
set_option maxRecDepth 100000
set_option maxHeartbeats 4000000
namespace My
open PySem L2 NdefX
abbrev s_Ring_init : Stmt := mtop 23 0
theorem sc_Ring_init : FnScope ["self", "locks", "programs", "wants", "order", "steps"] ["self", "locks", "programs", "wants", "order"] (defScope s_Ring_init) := ⟨rfl, rfl, rfl, by decide +kernel, rfl, by decide +kernel, by decide +kernel⟩
abbrev s_Ring_programs : Stmt := mtop 23 1
theorem sc_Ring_programs : FnScope ["self", "steps"] ["self"] (defScope s_Ring_programs) := ⟨rfl, rfl, rfl, by decide +kernel, rfl, by decide +kernel, by decide +kernel⟩
abbrev s_Ring_wants : Stmt := mtop 23 2
theorem sc_Ring_wants : FnScope ["self"] ["self"] (defScope s_Ring_wants) := ⟨rfl, rfl, rfl, by decide +kernel, rfl, by decide +kernel, by decide +kernel⟩
abbrev s_Ring_order : Stmt := mtop 23 3
theorem sc_Ring_order : FnScope ["self"] ["self"] (defScope s_Ring_order) := ⟨rfl, rfl, rfl, by decide +kernel, rfl, by decide +kernel, by decide +kernel⟩
def rLstOf (K : PySem.W.Frag) : List V → Hp → VK → Prop := fun xs H Q => ∃ p ys, xs = [V.ref p] ∧ (SqL K H p ys ∨ SqT K H p ys) ∧ ∀ (l : Addr), H l = none → Q (V.ref l) (upd H l (HO.lst ys))
theorem Kp.lstT {D : Addr} {H H' : Hp} {ys : List V} (k : Kp [D] H H') (h : H D = some (.lst ys)) {a : Addr} {xs : List V} (e : H a = some (.tup xs)) : H' a = some (.tup xs) := k a _ (not1 fun z => by rw [z, h] at e; cases e) e
/-- a comprehension over a list or a tuple; what it makes may be lists of their own -/
theorem lcK {α : Type} {K : PySem.W.Frag} {wi : L2.TI} {j : Nat} {te : TE} {σ : L2.St} {H : Hp} {Q : VK} {a : Addr} {us : List V} {gs : List α} {R : Hp → V → α → Prop} {R2 : Addr → Hp → V → α → Prop} (mono : ∀ H H' v x, Kp [] H H' → R H v x → R H' v x)
    (mono2 : ∀ D H H' v x ys, H D = some (.lst ys) → Kp [D] H H' → R2 D H v x → R2 D H' v x) (hw : WSrc K wi σ H a us) (hr : Rw (R H) us gs) (hl : gs.length ≤ 1000)
    (elt : ∀ D v x H' (Q' : VK), x ∈ gs → R H' v x → Kp [] H H' → (∃ ys, H' D = some (.lst ys)) → (∀ v' H2, R2 D H2 v' x → Kp [] H' H2 → Q' v' H2) → te ((wipe σ [j]).set j (some v)) H' Q')
    (fin : ∀ D ws H', H D = none → H' D = some (.lst ws) → Rw (R2 D H') ws gs → Kp [] H H' → Q (.ref D) H') :
    tLc wi (gName j) tYes te [j] σ H Q := by
  have st : ∀ D, H D = none → ∀ i x H', us[i]? = some x → (∃ ws, H' D = some (.lst ws) ∧ Rw (R2 D H') ws (gs.take i) ∧ Kp [] H H') →
      wipe ((wipe σ [j]).set j (some x)) [j] = wipe σ [j] ∧ tYes ((wipe σ [j]).set j (some x)) H' fun c H3 => if c = true then te ((wipe σ [j]).set j (some x)) H3 fun y H4 => ∃ acc, H4 D = some (.lst acc) ∧ acc.length < sizeLine ∧ (∃ ws, (upd H4 D (.lst (acc ++ [y]))) D = some (.lst ws) ∧ Rw (R2 D (upd H4 D (.lst (acc ++ [y])))) ws (gs.take (i + 1)) ∧ Kp [] H (upd H4 D (.lst (acc ++ [y]))))
        else (∃ ws, H3 D = some (.lst ws) ∧ Rw (R2 D H3) ws (gs.take (i + 1)) ∧ Kp [] H H3) := by
    rintro D nD i x H' hx ⟨ws, hD, hw, kp⟩
    obtain ⟨g, eg, hg⟩ := hr.get hx
    refine ⟨by simp [wipe], ?_⟩
    simp only [tYes, if_true]
    refine elt D x g H' _ (List.mem_of_getElem? eg) (mono _ _ _ _ kp hg) kp ⟨_, hD⟩ fun v' H2 h2 k2 => ?_
    have hD2 := k2 _ _ not0 hD
    have kD : ∀ u, Kp [D] H2 (upd H2 D u) := fun u => (Kp.refl [D] H2).put (by simp)
    refine ⟨_, hD2, ?_, ws ++ [v'], upd_same, ?_, (kp.trans k2).wr nD⟩
    · rw [hw.len, List.length_take]; exact smallL (by omega)
    · rw [take_snoc eg]
      exact (hw.mono fun u g r => mono2 _ _ _ _ _ _ hD2 (kD _) (mono2 _ _ _ _ _ _ hD k2.of0 r)).snoc (mono2 _ _ _ _ _ _ hD2 (kD _) h2)
  have hlen := hr.len
  rcases hw with ⟨ha, hw⟩ | ⟨ha, hw⟩
  · refine hw _ fun D nD => ?_
    refine lc_list (xs := us) (fun i H' => ∃ ws, H' D = some (.lst ws) ∧ Rw (R2 D H') ws (gs.take i) ∧ Kp [] H H') ⟨[], upd_same, .nil, Kp.new nD⟩ (fun i H' _ h => by obtain ⟨_, _, _, k⟩ := h; exact k.ls not0 ha) (fun i x H' hx h => st D nD i x H' hx h) fun H' h => ?_
    obtain ⟨ws, hD, hw, kp⟩ := h
    rw [hlen, List.take_length] at hw
    exact fin D ws H' nD hD hw kp
  · refine hw _ fun D nD => ?_
    refine lc_tup (xs := us) (fun i H' => ∃ ws, H' D = some (.lst ws) ∧ Rw (R2 D H') ws (gs.take i) ∧ Kp [] H H') ⟨[], upd_same, .nil, Kp.new nD⟩ (fun i H' _ h => by obtain ⟨_, _, _, k⟩ := h; exact k.tp not0 ha) (fun i x H' hx h => st D nD i x H' hx h) fun H' h => ?_
    obtain ⟨ws, hD, hw, kp⟩ := h
    rw [hlen, List.take_length] at hw
    exact fin D ws H' nD hD hw kp
/-- v is a list of steps -/
def PrAt (zs : List Str) (H : Hp) (v : V) (xs : List St2) : Prop := ∃ a us, v = .ref a ∧ H a = some (.lst us) ∧ Rw (SDt zs H) us xs
theorem PrAt.kp {zs : List Str} {H H' : Hp} {v : V} {xs : List St2} (h : PrAt zs H v xs) (k : Kp [] H H') : PrAt zs H' v xs := by
  obtain ⟨a, us, e, h1, h2⟩ := h
  exact ⟨a, us, e, k _ _ not0 h1, h2.mono fun _ _ z => z.tp k.tps⟩
/-- one that is new since H0, and isn't the list D -/
def PrN (zs : List Str) (H0 : Hp) (D : Addr) (H : Hp) (v : V) (xs : List St2) : Prop := ∃ a us, v = .ref a ∧ a ≠ D ∧ H0 a = none ∧ H a = some (.lst us) ∧ Rw (SDt zs H) us xs
theorem PrN.mono {zs : List Str} {H0 : Hp} (D : Addr) (H H' : Hp) (v : V) (xs : List St2) (ys : List V) (hD : H D = some (.lst ys)) (k : Kp [D] H H') (h : PrN zs H0 D H v xs) : PrN zs H0 D H' v xs := by
  obtain ⟨a, us, e, n, h0, h1, h2⟩ := h
  exact ⟨a, us, e, n, h0, k _ _ (not1 n) h1, h2.mono fun _ _ z => z.tp fun _ _ e => k.lstT hD e⟩
theorem PrN.at {zs : List Str} {H0 : Hp} {D : Addr} {H : Hp} {v : V} {xs : List St2} (h : PrN zs H0 D H v xs) : PrAt zs H v xs := by
  obtain ⟨a, us, e, _, _, h1, h2⟩ := h
  exact ⟨a, us, e, h1, h2⟩
theorem Kp.lsI {o C dx : Addr} {fs : List (Str × V)} {H H' : Hp} (k : Kp [o] H H') (ho : H o = some (.ins C dx fs)) {a : Addr} {xs : List V} (h : H a = some (.lst xs)) : H' a = some (.lst xs) := k _ _ (not1 fun z => by rw [z, ho] at h; cases h) h
theorem PrAt.kpI {zs : List Str} {o C dx : Addr} {fs : List (Str × V)} {H H' : Hp} {v : V} {xs : List St2} (h : PrAt zs H v xs) (k : Kp [o] H H') (ho : H o = some (.ins C dx fs)) : PrAt zs H' v xs := by
  obtain ⟨a, us, e, h1, h2⟩ := h
  exact ⟨a, us, e, k.lsI ho h1, h2.mono fun _ _ z => z.tp (k.tpsI ho)⟩
theorem wrF {H : Hp} {o C dx : Addr} {fs : List (Str × V)} {x : HO} : Kp [o] H (upd H o x) ∧ (upd H o x) o = some x := ⟨(Kp.refl [o] _).put List.mem_cons_self, upd_same⟩
structure RiC (K : PySem.W.Frag) (mg : Str → Option Value) (RG : Addr) : Prop where
  k : mg "Ring" = some (.ref RG)
  cl : Cls K RG
  n1 : NoAttr K RG "_locks"
  n2 : NoAttr K RG "_programs"
  n3 : NoAttr K RG "_wants"
  n4 : NoAttr K RG "_order"
structure BtR (mg : Str → Option Value) : Prop where
  b_list : mg "list" = none
def intsL (xs : List Nat) : List V := xs.map fun (i : Nat) => V.int (i : Nat)
/-- at o a ring: the programs' steps, what they want, the order -/
def RgAt (RG : Addr) (zs : List Str) (H : Hp) (o : Addr) (ps : List (List St2)) (ws : List Nat) (ord : List Nat) : Prop := ∃ dx ll pl wl ol us, H o = some (.ins RG dx [("_locks", .ref ll), ("_programs", .ref pl), ("_wants", .ref wl), ("_order", .ref ol)]) ∧
  H pl = some (.lst us) ∧ Rw (PrAt zs H) us ps ∧ H wl = some (.lst ((nmH zs ws).map V.str)) ∧ H ol = some (.lst (intsL ord))
theorem RgAt.kp {RG : Addr} {zs : List Str} {H H' : Hp} {o : Addr} {ps : List (List St2)} {ws ord : List Nat} (h : RgAt RG zs H o ps ws ord) (k : Kp [] H H') : RgAt RG zs H' o ps ws ord := by
  obtain ⟨dx, ll, pl, wl, ol, us, h1, h2, h3, h4, h5⟩ := h
  exact ⟨dx, ll, pl, wl, ol, us, k _ _ not0 h1, k _ _ not0 h2, h3.mono fun _ _ z => z.kp k, k _ _ not0 h4, k _ _ not0 h5⟩
section
variable {P : Program} {w : World} {K : PySem.W.Frag} {mg : Str → Option Value} {base : Heap} {RC CC RG : Addr}
def spRgI (RG : Addr) : Sp := fun vs H Q _ => ∃ (o dx ll pl wl ol : Addr) (zs : List Str) (us : List V) (ps : List (List St2)) (ws ord : List Nat), vs = [.ref o, .ref ll, .ref pl, .ref wl, .ref ol] ∧ H o = some (.ins RG dx []) ∧ H ll = some (.lst (zs.map V.str)) ∧ H pl = some (.lst us) ∧ Rw (PrAt zs H) us ps ∧ ps.length ≤ 3 ∧ H wl = some (.lst ((nmH zs ws).map V.str)) ∧ H ol = some (.lst (intsL ord)) ∧
  ∀ H', RgAt RG zs H' o ps ws ord → Kp [o] H H' → Q .non H'
theorem ok_Ring_init {f : Addr} {fd : FuncData} (F : Fun K "__init__" "Ring.__init__" s_Ring_init f fd) (T : BtR mg) (C : RiC K mg RG) : FnOk P w K mg base CX0 1 f fd ["self", "locks", "programs", "wants", "order"] (spRgI RG) := by
  refine F.ok sc_Ring_init (fun vs H Q E h => ?_) (fun cdv A outer s H vs Q E hr h => ?_)
  · obtain ⟨_, _, _, _, _, _, _, _, _, _, _, rfl, _⟩ := h
    rfl
  · obtain ⟨o, dx, ll, pl, wl, ol, zs, us, ps, ws, ord, rfl, ho, hll, hpl, hps, p3, hwl, hol, q⟩ := h
    refine ⟨_, (pss_cons (ps_fld (pv 0) (pe_callTy call_list_of (by rfl) T.b_list (by decide +kernel) (pa_cons (pv 1) pa_nil)) rfl)
      (pss_cons (ps_fld (pv 0) (pe_lc (own := [("steps", 5)]) (g := (gName 5)) (tt := tYes) rfl sc_Ring_init.nd (pi_list (pv 2)) (blkOk_by (N := ["self", "locks", "programs", "wants", "order", "steps"]) (sc := defScope s_Ring_init) (by decide +kernel)) (fun _ _ _ _ _ => (pg_name (i := 5) sc_Ring_init.nd rfl (Or.inl rfl))) (fun _ _ _ _ _ => pts_nil) (fun _ _ _ _ _ => (pe_callTy (T := "list") (r := rLstOf K) call_list_of (by rfl) T.b_list (by decide +kernel) (pa_cons (pv 5) pa_nil)))) rfl)
      (pss_cons (ps_fld (pv 0) (pe_callTy call_list_of (by rfl) T.b_list (by decide +kernel) (pa_cons (pv 3) pa_nil)) rfl)
      (pss_one (ps_fld (pv 0) (pe_callTy call_list_of (by rfl) T.b_list (by decide +kernel) (pa_cons (pv 4) pa_nil)) rfl))))), ?_⟩
    try simp (maxSteps := 1000000) only [tSeq, tIfS, tTest, tOp, tUn, tCB, tCons, tNil, tVar, tC, rI0, rI, rU, rEq, rNe, tRet, tRetN, tAsg, gName, gSub, tBM, tBM0, tNext, tB, tNot, tAnd, tOr, tIf, tCall, tDrop, tBreak, tCont, L2.start, tDGet, sDPut, tTup, tLst, tDNewK, tRevL, rCat, rAppend, rPop, rSetL, tAndV, tOrV, tNotV, tSl, tPart, tNoPart, tM1, gTup, gCons, gNil, cxK, cxnK, List.map_cons, List.map_nil, List.length_cons, List.length_nil, List.replicate, List.cons_append, List.nil_append, List.append_nil, List.set_cons_zero, List.set_cons_succ, List.getElem?_cons_zero, List.getElem?_cons_succ, Option.some.injEq, V.ref.injEq, V.int.injEq, V.str.injEq, V.bl.injEq, V.ty.injEq, exists_eq_left', exists_eq_left, exists_and_left, List.cons.injEq, and_true, true_and, sc_ii, sc_ss, sc_bb, sc_ni, sc_in, sc_is, sc_si, sc_nn, decide_true, decide_false, reduceCtorEq, Bool.false_eq_true, if_true, if_false, ite_true, ite_false, exists_const, eq_self, false_and, and_false, or_false, false_or, exists_false, Evl.rLenS, rSum, wipe, tYes, exists_eq, exists_eq', rIxL, rIxT, rIxS, exists_and_right, gt_iff_lt, not_true_eq_false, not_false_eq_true, Bool.not_true, Bool.not_false, decide_eq_true_eq, Nat.reduceSub, Nat.reduceAdd, List.append_assoc, tChain, tDIn, tDNotIn, sDDel, tAug, ipI, rInt1_int, rInt1_bl, sFld]
    refine ⟨_, .inl (sq_l hll), fun l1 nl1 => ?_⟩
    have k1 := (Kp.new nl1 : Kp [] H (upd H l1 (.lst (zs.map V.str))))
    have hl1 : (upd H l1 (.lst (zs.map V.str))) l1 = some (.lst (zs.map V.str)) := upd_same
    generalize upd H l1 (.lst (zs.map V.str)) = H1 at k1 hl1 ⊢
    have ho1 := k1 _ _ not0 ho
    refine ⟨RG, dx, _, ho1, C.cl, C.n1, by show 0 < 1000; decide, ?_⟩
    obtain ⟨kw1, ho2⟩ := wrF (C := RG) (dx := dx) (fs := []) (H := H1) (o := o) (x := .ins RG dx (putF "_locks" (.ref l1) []))
    have k02 : Kp [o] H (upd H1 o (.ins RG dx (putF "_locks" (.ref l1) []))) := k1.of0.trans kw1
    generalize upd H1 o (.ins RG dx (putF "_locks" (.ref l1) [])) = H2 at kw1 ho2 k02 ⊢
    have ho2 : H2 o = some (.ins RG dx [("_locks", .ref l1)]) := ho2
    have hps2 := hps.mono fun _ _ z => PrAt.kpI z k02 ho
    refine lcK (R := PrAt zs) (R2 := PrN zs H2) (fun _ _ _ _ k h => h.kp k) PrN.mono (src_list (fun R q' => ⟨_, rfl, q'⟩) (sq_l (k02.lsI ho hpl))) hps2 (by omega) (fun D v x H' Q' hx hv k hD hQ => ?_) fun D us' H3 nD hD hrw k3 => ?_
    · obtain ⟨a, ua, rfl, ha, hua⟩ := hv
      try simp (maxSteps := 1000000) only [tSeq, tIfS, tTest, tOp, tUn, tCB, tCons, tNil, tVar, tC, rI0, rI, rU, rEq, rNe, tRet, tRetN, tAsg, gName, gSub, tBM, tBM0, tNext, tB, tNot, tAnd, tOr, tIf, tCall, tDrop, tBreak, tCont, L2.start, tDGet, sDPut, tTup, tLst, tDNewK, tRevL, rCat, rAppend, rPop, rSetL, tAndV, tOrV, tNotV, tSl, tPart, tNoPart, tM1, gTup, gCons, gNil, cxK, cxnK, List.map_cons, List.map_nil, List.length_cons, List.length_nil, List.replicate, List.cons_append, List.nil_append, List.append_nil, List.set_cons_zero, List.set_cons_succ, List.getElem?_cons_zero, List.getElem?_cons_succ, Option.some.injEq, V.ref.injEq, V.int.injEq, V.str.injEq, V.bl.injEq, V.ty.injEq, exists_eq_left', exists_eq_left, exists_and_left, List.cons.injEq, and_true, true_and, sc_ii, sc_ss, sc_bb, sc_ni, sc_in, sc_is, sc_si, sc_nn, decide_true, decide_false, reduceCtorEq, Bool.false_eq_true, if_true, if_false, ite_true, ite_false, exists_const, eq_self, false_and, and_false, or_false, false_or, exists_false, Evl.rLenS, rSum, wipe, tYes, exists_eq, exists_eq', rIxL, rIxT, rIxS, exists_and_right, gt_iff_lt, not_true_eq_false, not_false_eq_true, Bool.not_true, Bool.not_false, decide_eq_true_eq, Nat.reduceSub, Nat.reduceAdd, List.append_assoc, tChain, tDIn, tDNotIn, sDDel, tAug, ipI, rInt1_int, rInt1_bl]
      refine ⟨a, ua, rfl, .inl (sq_l ha), fun l nl => ?_⟩
      have kl := (Kp.new nl : Kp [] H' (upd H' l (.lst ua)))
      obtain ⟨ys, hD⟩ := hD
      exact hQ _ _ ⟨l, ua, rfl, (fun z => by rw [z, hD] at nl; cases nl), k.free0 nl, upd_same, hua.mono fun _ _ z => z.tp kl.tps⟩ kl
    · have ho3 := k3 _ _ not0 ho2
      refine ⟨RG, dx, _, ho3, C.cl, C.n2, by show 1 < 1000; decide, ?_⟩
      obtain ⟨kw3, ho4⟩ := wrF (C := RG) (dx := dx) (fs := []) (H := H3) (o := o) (x := .ins RG dx (putF "_programs" (.ref D) [("_locks", .ref l1)]))
      have k04 := (k02.trans k3.of0).trans kw3
      generalize upd H3 o (.ins RG dx (putF "_programs" (.ref D) [("_locks", .ref l1)])) = H4 at kw3 ho4 k04 ⊢
      have ho4 : H4 o = some (.ins RG dx [("_locks", .ref l1), ("_programs", .ref D)]) := ho4
      have hD4 := kw3.lsI ho3 hD
      have hp4 := hrw.mono fun _ _ z => PrAt.kpI z.at kw3 ho3
      refine ⟨_, .inl (sq_l (k04.lsI ho hwl)), fun l4 nl4 => ?_⟩
      have k4 := (Kp.new nl4 : Kp [] H4 (upd H4 l4 (.lst ((nmH zs ws).map V.str))))
      have hl4 : (upd H4 l4 (.lst ((nmH zs ws).map V.str))) l4 = some (.lst ((nmH zs ws).map V.str)) := upd_same
      generalize upd H4 l4 (.lst ((nmH zs ws).map V.str)) = H5 at k4 hl4 ⊢
      have ho5 := k4 _ _ not0 ho4
      refine ⟨RG, dx, _, ho5, C.cl, C.n3, by show 2 < 1000; decide, ?_⟩
      obtain ⟨kw5, ho6⟩ := wrF (C := RG) (dx := dx) (fs := []) (H := H5) (o := o) (x := .ins RG dx (putF "_wants" (.ref l4) [("_locks", .ref l1), ("_programs", .ref D)]))
      have k46 := k4.of0.trans kw5
      generalize upd H5 o (.ins RG dx (putF "_wants" (.ref l4) [("_locks", .ref l1), ("_programs", .ref D)])) = H6 at kw5 ho6 k46 ⊢
      have ho6 : H6 o = some (.ins RG dx [("_locks", .ref l1), ("_programs", .ref D), ("_wants", .ref l4)]) := ho6
      have hl6 := kw5.lsI ho5 hl4
      refine ⟨_, .inl (sq_l ((k04.trans k46).lsI ho hol)), fun l7 nl7 => ?_⟩
      have k7 := (Kp.new nl7 : Kp [] H6 (upd H6 l7 (.lst (intsL ord))))
      have hl7 : (upd H6 l7 (.lst (intsL ord))) l7 = some (.lst (intsL ord)) := upd_same
      generalize upd H6 l7 (.lst (intsL ord)) = H7 at k7 hl7 ⊢
      have ho7 := k7 _ _ not0 ho6
      refine ⟨RG, dx, _, ho7, C.cl, C.n4, by show 3 < 1000; decide, ?_⟩
      obtain ⟨kw7, ho8⟩ := wrF (C := RG) (dx := dx) (fs := []) (H := H7) (o := o) (x := .ins RG dx (putF "_order" (.ref l7) [("_locks", .ref l1), ("_programs", .ref D), ("_wants", .ref l4)]))
      have k68 := k7.of0.trans kw7
      have k48 := k46.trans k68
      exact q _ ⟨dx, l1, D, l4, l7, us', ho8, k48.lsI ho4 hD4, hp4.mono fun _ _ z => PrAt.kpI z k48 ho4, k68.lsI ho6 hl6, kw7.lsI ho7 hl7⟩ (k04.trans k48)
/-- the programs told: new lists -/
def spRgP (RG : Addr) : Sp := fun vs H Q _ => ∃ (o : Addr) (zs : List Str) (ps : List (List St2)) (ws ord : List Nat), vs = [.ref o] ∧ RgAt RG zs H o ps ws ord ∧ ps.length ≤ 3 ∧ ∀ l us H', H l = none → H' l = some (.lst us) → Rw (PrN zs H l H') us ps → Kp [] H H' → Q (.ref l) H'
theorem ok_Ring_programs {f : Addr} {fd : FuncData} (F : Fun K "programs" "Ring.programs" s_Ring_programs f fd) (T : BtR mg) (C : RiC K mg RG) : FnOk P w K mg base CX0 1 f fd ["self"] (spRgP RG) := by
  refine F.ok sc_Ring_programs (fun vs H Q E h => ?_) (fun cdv A outer s H vs Q E hr h => ?_)
  · obtain ⟨_, _, _, _, _, rfl, _⟩ := h
    rfl
  · obtain ⟨o, zs, ps, ws, ord, rfl, ⟨dx, ll, pl, wl, ol, us, ho, hpl, hps, hwl, hol⟩, p3, q⟩ := h
    refine ⟨_, (pss_one (ps_ret (pe_lc (own := [("steps", 1)]) (g := (gName 1)) (tt := tYes) rfl sc_Ring_programs.nd (pi_list (pe_fld (pv 0) rfl)) (blkOk_by (N := ["self", "steps"]) (sc := defScope s_Ring_programs) (by decide +kernel)) (fun _ _ _ _ _ => (pg_name (i := 1) sc_Ring_programs.nd rfl (Or.inl rfl))) (fun _ _ _ _ _ => pts_nil) (fun _ _ _ _ _ => (pe_callTy (T := "list") (r := rLstOf K) call_list_of (by rfl) T.b_list (by decide +kernel) (pa_cons (pv 1) pa_nil)))))), ?_⟩
    try simp (maxSteps := 1000000) only [tSeq, tIfS, tTest, tOp, tUn, tCB, tCons, tNil, tVar, tC, rI0, rI, rU, rEq, rNe, tRet, tRetN, tAsg, gName, gSub, tBM, tBM0, tNext, tB, tNot, tAnd, tOr, tIf, tCall, tDrop, tBreak, tCont, L2.start, tDGet, sDPut, tTup, tLst, tDNewK, tRevL, rCat, rAppend, rPop, rSetL, tAndV, tOrV, tNotV, tSl, tPart, tNoPart, tM1, gTup, gCons, gNil, cxK, cxnK, List.map_cons, List.map_nil, List.length_cons, List.length_nil, List.replicate, List.cons_append, List.nil_append, List.append_nil, List.set_cons_zero, List.set_cons_succ, List.getElem?_cons_zero, List.getElem?_cons_succ, Option.some.injEq, V.ref.injEq, V.int.injEq, V.str.injEq, V.bl.injEq, V.ty.injEq, exists_eq_left', exists_eq_left, exists_and_left, List.cons.injEq, and_true, true_and, sc_ii, sc_ss, sc_bb, sc_ni, sc_in, sc_is, sc_si, sc_nn, decide_true, decide_false, reduceCtorEq, Bool.false_eq_true, if_true, if_false, ite_true, ite_false, exists_const, eq_self, false_and, and_false, or_false, false_or, exists_false, Evl.rLenS, rSum, wipe, tYes, exists_eq, exists_eq', rIxL, rIxT, rIxS, exists_and_right, gt_iff_lt, not_true_eq_false, not_false_eq_true, Bool.not_true, Bool.not_false, decide_eq_true_eq, Nat.reduceSub, Nat.reduceAdd, List.append_assoc, tChain, tDIn, tDNotIn, sDDel, tAug, ipI, rInt1_int, rInt1_bl]
    refine lcK (R := PrAt zs) (R2 := PrN zs H) (fun _ _ _ _ k h => h.kp k) PrN.mono (src_list (fun R q' => ⟨.ref o, rfl, o, RG, dx, _, .ref pl, rfl, ho, C.cl, C.n2, rfl, q'⟩) (sq_l hpl)) hps (by omega) (fun D v x H' Q' hx hv k hD hQ => ?_) fun D us' H3 nD hD hrw k3 => q D us' H3 nD hD hrw k3
    obtain ⟨a, ua, rfl, ha, hua⟩ := hv
    try simp (maxSteps := 1000000) only [tSeq, tIfS, tTest, tOp, tUn, tCB, tCons, tNil, tVar, tC, rI0, rI, rU, rEq, rNe, tRet, tRetN, tAsg, gName, gSub, tBM, tBM0, tNext, tB, tNot, tAnd, tOr, tIf, tCall, tDrop, tBreak, tCont, L2.start, tDGet, sDPut, tTup, tLst, tDNewK, tRevL, rCat, rAppend, rPop, rSetL, tAndV, tOrV, tNotV, tSl, tPart, tNoPart, tM1, gTup, gCons, gNil, cxK, cxnK, List.map_cons, List.map_nil, List.length_cons, List.length_nil, List.replicate, List.cons_append, List.nil_append, List.append_nil, List.set_cons_zero, List.set_cons_succ, List.getElem?_cons_zero, List.getElem?_cons_succ, Option.some.injEq, V.ref.injEq, V.int.injEq, V.str.injEq, V.bl.injEq, V.ty.injEq, exists_eq_left', exists_eq_left, exists_and_left, List.cons.injEq, and_true, true_and, sc_ii, sc_ss, sc_bb, sc_ni, sc_in, sc_is, sc_si, sc_nn, decide_true, decide_false, reduceCtorEq, Bool.false_eq_true, if_true, if_false, ite_true, ite_false, exists_const, eq_self, false_and, and_false, or_false, false_or, exists_false, Evl.rLenS, rSum, wipe, tYes, exists_eq, exists_eq', rIxL, rIxT, rIxS, exists_and_right, gt_iff_lt, not_true_eq_false, not_false_eq_true, Bool.not_true, Bool.not_false, decide_eq_true_eq, Nat.reduceSub, Nat.reduceAdd, List.append_assoc, tChain, tDIn, tDNotIn, sDDel, tAug, ipI, rInt1_int, rInt1_bl]
    refine ⟨a, ua, rfl, .inl (sq_l ha), fun l nl => ?_⟩
    have kl := (Kp.new nl : Kp [] H' (upd H' l (.lst ua)))
    obtain ⟨ys, hD⟩ := hD
    exact hQ _ _ ⟨l, ua, rfl, (fun z => by rw [z, hD] at nl; cases nl), k.free0 nl, upd_same, hua.mono fun _ _ z => z.tp kl.tps⟩ kl
def spRgW (RG : Addr) : Sp := fun vs H Q _ => ∃ (o : Addr) (zs : List Str) (ps : List (List St2)) (ws ord : List Nat), vs = [.ref o] ∧ RgAt RG zs H o ps ws ord ∧ ∀ l, H l = none → Q (.ref l) (upd H l (.lst ((nmH zs ws).map V.str)))
theorem ok_Ring_wants {f : Addr} {fd : FuncData} (F : Fun K "wants" "Ring.wants" s_Ring_wants f fd) (T : BtR mg) (C : RiC K mg RG) : FnOk P w K mg base CX0 1 f fd ["self"] (spRgW RG) := by
  refine F.ok sc_Ring_wants (fun vs H Q E h => ?_) (fun cdv A outer s H vs Q E hr h => ?_)
  · obtain ⟨_, _, _, _, _, rfl, _⟩ := h
    rfl
  · obtain ⟨o, zs, ps, ws, ord, rfl, ⟨dx, ll, pl, wl, ol, us, ho, hpl, hps, hwl, hol⟩, q⟩ := h
    refine ⟨_, (pss_one (ps_ret (pe_callTy call_list_of (by rfl) T.b_list (by decide +kernel) (pa_cons (pe_fld (pv 0) rfl) pa_nil)))), ?_⟩
    try simp (maxSteps := 1000000) only [tSeq, tIfS, tTest, tOp, tUn, tCB, tCons, tNil, tVar, tC, rI0, rI, rU, rEq, rNe, tRet, tRetN, tAsg, gName, gSub, tBM, tBM0, tNext, tB, tNot, tAnd, tOr, tIf, tCall, tDrop, tBreak, tCont, L2.start, tDGet, sDPut, tTup, tLst, tDNewK, tRevL, rCat, rAppend, rPop, rSetL, tAndV, tOrV, tNotV, tSl, tPart, tNoPart, tM1, gTup, gCons, gNil, cxK, cxnK, List.map_cons, List.map_nil, List.length_cons, List.length_nil, List.replicate, List.cons_append, List.nil_append, List.append_nil, List.set_cons_zero, List.set_cons_succ, List.getElem?_cons_zero, List.getElem?_cons_succ, Option.some.injEq, V.ref.injEq, V.int.injEq, V.str.injEq, V.bl.injEq, V.ty.injEq, exists_eq_left', exists_eq_left, exists_and_left, List.cons.injEq, and_true, true_and, sc_ii, sc_ss, sc_bb, sc_ni, sc_in, sc_is, sc_si, sc_nn, decide_true, decide_false, reduceCtorEq, Bool.false_eq_true, if_true, if_false, ite_true, ite_false, exists_const, eq_self, false_and, and_false, or_false, false_or, exists_false, Evl.rLenS, rSum, wipe, tYes, exists_eq, exists_eq', rIxL, rIxT, rIxS, exists_and_right, gt_iff_lt, not_true_eq_false, not_false_eq_true, Bool.not_true, Bool.not_false, decide_eq_true_eq, Nat.reduceSub, Nat.reduceAdd, List.append_assoc, tChain, tDIn, tDNotIn, sDDel, tAug, ipI, rInt1_int, rInt1_bl, tFld]
    exact ⟨RG, dx, _, ho, C.cl, C.n3, .ref wl, rfl, wl, rfl, _, .inl (sq_l hwl), fun l nl => q l nl⟩
def spRgO (RG : Addr) : Sp := fun vs H Q _ => ∃ (o : Addr) (zs : List Str) (ps : List (List St2)) (ws ord : List Nat), vs = [.ref o] ∧ RgAt RG zs H o ps ws ord ∧ ∀ l, H l = none → Q (.ref l) (upd H l (.lst (intsL ord)))
theorem ok_Ring_order {f : Addr} {fd : FuncData} (F : Fun K "order" "Ring.order" s_Ring_order f fd) (T : BtR mg) (C : RiC K mg RG) : FnOk P w K mg base CX0 1 f fd ["self"] (spRgO RG) := by
  refine F.ok sc_Ring_order (fun vs H Q E h => ?_) (fun cdv A outer s H vs Q E hr h => ?_)
  · obtain ⟨_, _, _, _, _, rfl, _⟩ := h
    rfl
  · obtain ⟨o, zs, ps, ws, ord, rfl, ⟨dx, ll, pl, wl, ol, us, ho, hpl, hps, hwl, hol⟩, q⟩ := h
    refine ⟨_, (pss_one (ps_ret (pe_callTy call_list_of (by rfl) T.b_list (by decide +kernel) (pa_cons (pe_fld (pv 0) rfl) pa_nil)))), ?_⟩
    try simp (maxSteps := 1000000) only [tSeq, tIfS, tTest, tOp, tUn, tCB, tCons, tNil, tVar, tC, rI0, rI, rU, rEq, rNe, tRet, tRetN, tAsg, gName, gSub, tBM, tBM0, tNext, tB, tNot, tAnd, tOr, tIf, tCall, tDrop, tBreak, tCont, L2.start, tDGet, sDPut, tTup, tLst, tDNewK, tRevL, rCat, rAppend, rPop, rSetL, tAndV, tOrV, tNotV, tSl, tPart, tNoPart, tM1, gTup, gCons, gNil, cxK, cxnK, List.map_cons, List.map_nil, List.length_cons, List.length_nil, List.replicate, List.cons_append, List.nil_append, List.append_nil, List.set_cons_zero, List.set_cons_succ, List.getElem?_cons_zero, List.getElem?_cons_succ, Option.some.injEq, V.ref.injEq, V.int.injEq, V.str.injEq, V.bl.injEq, V.ty.injEq, exists_eq_left', exists_eq_left, exists_and_left, List.cons.injEq, and_true, true_and, sc_ii, sc_ss, sc_bb, sc_ni, sc_in, sc_is, sc_si, sc_nn, decide_true, decide_false, reduceCtorEq, Bool.false_eq_true, if_true, if_false, ite_true, ite_false, exists_const, eq_self, false_and, and_false, or_false, false_or, exists_false, Evl.rLenS, rSum, wipe, tYes, exists_eq, exists_eq', rIxL, rIxT, rIxS, exists_and_right, gt_iff_lt, not_true_eq_false, not_false_eq_true, Bool.not_true, Bool.not_false, decide_eq_true_eq, Nat.reduceSub, Nat.reduceAdd, List.append_assoc, tChain, tDIn, tDNotIn, sDDel, tAug, ipI, rInt1_int, rInt1_bl, tFld]
    exact ⟨RG, dx, _, ho, C.cl, C.n4, .ref ol, rfl, ol, rfl, _, .inl (sq_l hol), fun l nl => q l nl⟩
end
end My

set_option Elab.async false
set_option linter.all false
set_option maxRecDepth 100000
set_option maxHeartbeats 4000000
namespace My
open PySem L2 NdefX
theorem valN_at {kvs : List (NestedKey × V)} {j : Nat} {k : NestedKey} {v : V} : (kvs.map (·.1)).Nodup → kvs[j]? = some (k, v) → valN kvs k = some v := by
  induction kvs generalizing j with
  | nil => intro _ h; cases h
  | cons p r ih =>
    intro nd h
    rw [List.map_cons, List.nodup_cons] at nd
    unfold valN at ih ⊢
    rw [List.find?_cons]
    cases j with
    | zero =>
      cases h
      rw [decide_eq_true rfl]
      rfl
    | succ j =>
      have h : r[j]? = some (k, v) := by simpa using h
      have : p.1 ≠ k := fun e => nd.1 (e ▸ List.mem_map.mpr ⟨(k, v), List.mem_of_getElem? h, rfl⟩)
      rw [decide_eq_false this]
      exact ih nd.2 h
theorem rw_rev {α : Type} {R : V → α → Prop} : ∀ {us : List V} {gs : List α}, Rw R us gs → Rw R us.reverse gs.reverse
  | us, [], r => by rw [r.isNil]; exact .nil
  | us, g :: gs, r => by
    obtain ⟨u, t, rfl, e, r'⟩ := r.ex
    rw [List.reverse_cons, List.reverse_cons]
    exact (rw_rev r').snoc e
theorem rw_map {α β : Type} {R : V → β → Prop} {f : α → β} {us : List V} {gs : List α} (h : Rw (fun v x => R v (f x)) us gs) : Rw R us (gs.map f) := ⟨by rw [List.length_map]; exact h.len, fun {i u} e => by
  obtain ⟨g, eg, hg⟩ := h.get e
  exact ⟨f g, by rw [List.getElem?_map, eg]; rfl, hg⟩⟩
section
variable {P : Program} {w : World} {K : PySem.W.Frag} {mg : Str → Option Value} {base : Heap} {RC CC RG : Addr}
theorem nodup_map_on {α β : Type} {f : α → β} : ∀ {l : List α}, (∀ a ∈ l, ∀ b ∈ l, f a = f b → a = b) → l.Nodup → (l.map f).Nodup
  | [], _, _ => List.nodup_nil
  | x :: l, hf, nd => by
    rw [List.nodup_cons] at nd
    rw [List.map_cons, List.nodup_cons]
    refine ⟨fun hm => ?_, nodup_map_on (fun a ha b hb => hf a (List.mem_cons_of_mem _ ha) b (List.mem_cons_of_mem _ hb)) nd.2⟩
    obtain ⟨y, hy, e⟩ := List.mem_map.mp hm
    exact nd.1 (hf y (List.mem_cons_of_mem _ hy) x List.mem_cons_self e ▸ hy)
/-- the dict tells from what a state was found -/
theorem CiAt.get {c : CirP} {Hb H : Hp} {o : Addr} {zs : List Str} {es : List En} {B : List Bk} {st : Option Jt} {m j : Nat} {g : Jt} {x : Option (Jt × Stp)} (h : CiAt P w RC CC c Hb H o zs es B st) (G : GB zs.length m es B) (m3 : m < 4) (e : B[j]? = some (g, x)) :
    ∃ kvs v, DnAt P w H c.bl kvs ∧ valN kvs (keyJ zs g) = some v ∧ BV zs H v x := by
  obtain ⟨_, _, _, _, _, _, _, _, L, hes⟩ := id h.ru
  have n1 := L.pos
  have n3 : zs.length < 4 := by have := L.le; omega
  obtain ⟨kvs, hd, hk, hv⟩ := h.bk
  have e1 : (kvs.map (·.1))[j]? = some (keyJ zs g) := by
    rw [hk, List.getElem?_map, keys_get.mpr ⟨_, e⟩]
    rfl
  obtain ⟨v, ev, hv'⟩ := hv.at (show (B.map (·.2))[j]? = some x by rw [List.getElem?_map, e]; rfl)
  have e2 : kvs[j]? = some (keyJ zs g, v) := by
    rw [List.getElem?_map] at e1 ev
    cases hh : kvs[j]? with
    | none => rw [hh] at e1; cases e1
    | some p =>
      rw [hh] at e1 ev
      have a1 : p.1 = keyJ zs g := Option.some.inj e1
      have a2 : p.2 = v := Option.some.inj ev
      rw [← a1, ← a2]
  refine ⟨kvs, v, hd, valN_at ?_ e2, hv'⟩
  rw [hk]
  exact nodup_map_on (fun a ha b hb e => keyJ_inj L (all_below n3 n1 (rch_all n3 n1 m3 hes (gb_mem G ha))) (all_below n3 n1 (rch_all n3 n1 m3 hes (gb_mem G hb))) e) G.nd
/-- lists of steps at these places -/
structure PgsAt (zs : List Str) (H0 : Hp) (pl : Addr) (H : Hp) (as : List Addr) (pg : Nat → List St2) : Prop where
  lst : H pl = some (.lst (as.map V.ref))
  nd : as.Nodup
  out : pl ∉ as
  new : ∀ a ∈ as, H0 a = none
  at_ : ∀ i a, as[i]? = some a → ∃ us, H a = some (.lst us) ∧ Rw (SDt zs H) us (pg i)
theorem PgsAt.mv {zs : List Str} {H0 H H' : Hp} {pl : Addr} {as : List Addr} {pg : Nat → List St2} (h : PgsAt zs H0 pl H as pg) (k : Kp [] H H') : PgsAt zs H0 pl H' as pg := ⟨k _ _ not0 h.lst, h.nd, h.out, h.new, fun i a e => by
  obtain ⟨us, h1, h2⟩ := h.at_ i a e
  exact ⟨us, k _ _ not0 h1, h2.mono fun _ _ z => z.tp k.tps⟩⟩
theorem PgsAt.push {zs : List Str} {H0 H : Hp} {pl a : Addr} {as : List Addr} {pg pg' : Nat → List St2} {i : Nat} {us : List V} {v : V} {x : St2} (h : PgsAt zs H0 pl H as pg) (e : as[i]? = some a) (ha : H a = some (.lst us)) (hu : Rw (SDt zs H) us (pg i)) (hv : SDt zs H v x) (e1 : pg' i = pg i ++ [x]) (e2 : ∀ j, j ≠ i → pg' j = pg j) : PgsAt zs H0 pl (upd H a (.lst (us ++ [v]))) as pg' := by
  have t : Tp H (upd H a (.lst (us ++ [v]))) := (Tp.refl _).putL ha
  refine ⟨?_, h.nd, h.out, h.new, fun j b ej => ?_⟩
  · rw [upd_ne (fun z => h.out (by rw [z]; exact List.mem_of_getElem? e))]
    exact h.lst
  · by_cases ji : j = i
    · subst ji
      have : b = a := Option.some.inj (ej.symm.trans e)
      subst this
      refine ⟨_, upd_same, ?_⟩
      rw [e1]
      exact (hu.mono fun _ _ z => z.tp t).snoc (hv.tp t)
    · obtain ⟨ws, h1, h2⟩ := h.at_ j b ej
      have ne : b ≠ a := fun z => by
        subst z
        obtain ⟨l1, g1⟩ := List.getElem?_eq_some_iff.mp ej
        obtain ⟨l2, g2⟩ := List.getElem?_eq_some_iff.mp e
        exact ji ((List.getElem_inj h.nd).mp (g1.trans g2.symm))
      refine ⟨ws, by rw [upd_ne ne]; exact h1, ?_⟩
      rw [e2 j ji]
      exact h2.mono fun _ _ z => z.tp t
theorem PgsAt.wr {zs : List Str} {H0 H : Hp} {pl a : Addr} {as : List Addr} {pg : Nat → List St2} {us ws : List V} (h : PgsAt zs H0 pl H as pg) (ha : H a = some (.lst us)) (n1 : a ∉ as) (n2 : a ≠ pl) : PgsAt zs H0 pl (upd H a (.lst ws)) as pg := by
  have t : Tp H (upd H a (.lst ws)) := (Tp.refl _).putL ha
  refine ⟨by rw [upd_ne (Ne.symm n2)]; exact h.lst, h.nd, h.out, h.new, fun i b e => ?_⟩
  obtain ⟨us, h1, h2⟩ := h.at_ i b e
  have : b ≠ a := fun z => n1 (by rw [← z]; exact List.mem_of_getElem? e)
  exact ⟨us, by rw [upd_ne this]; exact h1, h2.mono fun _ _ z => z.tp t⟩
theorem prg_cons {i : Nat} {x : St2} {p : List Stp} {j : Nat} : prgJ ((i, x) :: p) j = if j = i then x :: prgJ p j else prgJ p j := by
  unfold prgJ
  by_cases h : j = i
  · rw [if_pos h, List.filter_cons, if_pos (by simp [h])]
    rfl
  · rw [if_neg h, List.filter_cons, if_neg (by simp; exact fun z => h z.symm)]
theorem mkRg {H : Hp} {ll pl wl ol : Addr} {zs : List Str} {us : List V} {ps : List (List St2)} {ws ord : List Nat} {Q : VK} {E : XK} (hll : H ll = some (.lst (zs.map V.str))) (hpl : H pl = some (.lst us)) (hps : Rw (PrAt zs H) us ps) (p3 : ps.length ≤ 3) (hwl : H wl = some (.lst ((nmH zs ws).map V.str))) (hol : H ol = some (.lst (intsL ord)))
    (q : ∀ o H', H o = none → RgAt RG zs H' o ps ws ord → Kp [] H H' → Q (.ref o) H') (o dx : Addr) (no : H o = none) (ndx : H dx = none) (dxo : dx ≠ o) :
    spRgI RG [.ref o, .ref ll, .ref pl, .ref wl, .ref ol] (upd (upd H dx (.own o)) o (.ins RG dx [])) (fun v H2 => v = .non ∧ Q (.ref o) H2) E := by
  have k : Kp [] H (upd (upd H dx (.own o)) o (.ins RG dx [])) := (Kp.new ndx).wr no
  refine ⟨o, dx, ll, pl, wl, ol, zs, us, ps, ws, ord, rfl, upd_same, k _ _ not0 hll, k _ _ not0 hpl, hps.mono fun _ _ z => z.kp k, p3, k _ _ not0 hwl, k _ _ not0 hol, fun H' hR kI => ⟨rfl, ?_⟩⟩
  exact q o H' no hR fun b ob _ e => (k.of0.trans kI) b ob (not1 fun z => by rw [z, no] at e; cases e) e
def spRing (P : Program) (w : World) (RC CC RG : Addr) : Sp := fun vs H Q _ => ∃ (o : Addr) (c : CirP) (Hb : Hp) (zs : List Str) (es : List En) (B : List Bk) (hs : Jt) (m : Nat), vs = [.ref o] ∧ CiAt P w RC CC c Hb H o zs es B (some hs) ∧ GB zs.length m es B ∧ hs ∈ keysB B ∧ 1 ≤ m ∧ m ≤ 3 ∧
  ∀ r H' p, H r = none → PthJ zs.length es (List.replicate m []) p hs → p.length ≤ 64 → RgAt RG zs H' r ((List.range m).map (prgJ p)) (wantsJ es hs) (p.map (·.1)) → Kp [] H H' → Q (.ref r) H'
theorem ok_Circle_ring {f : Addr} {fd : FuncData} (F : Fun K "ring" "Circle.ring" s_Circle_ring f fd) (T : BtC mg) (C : CiC K mg CC) (RR : RuC K mg RC) (RI : RiC K mg RG) (ne : CC ≠ RC)
    {f3 : Addr} {fd3 : FuncData} (ME_Circle_wants_at : Meth K CC "wants_at" f3) (bM_Circle_wants_at : Binds K fd3 ["self", "helds"] []) (G_Circle_wants_at : FnOk P w K mg base CX0 5 f3 fd3 ["self", "helds"] (spWants P w RC CC))
    {fI : Addr} {fdI : FuncData} (M_Ring : Mk K RG fI) (bI_Ring : Binds K fdI ["self", "locks", "programs", "wants", "order"] []) (G_Ring_init : FnOk P w K mg base CX0 1 fI fdI ["self", "locks", "programs", "wants", "order"] (spRgI RG)) :
    FnOk P w K mg base CX0 7 f fd ["self"] (spRing P w RC CC RG) := by
  refine F.ok sc_Circle_ring (fun vs H Q E h => ?_) (fun cdv A outer s H vs Q E hr h => ?_)
  · obtain ⟨_, _, _, _, _, _, _, _, rfl, _⟩ := h
    rfl
  · obtain ⟨o, cp, Hb, zs, es, B, hs, m, rfl, hC, hG, hm, m1, m3, q⟩ := h
    have hu := hu_of hr
    obtain ⟨sv, ho, hsv⟩ := id hC.ob
    obtain ⟨_, _, _, _, _, _, _, _, L, hes⟩ := id hC.ru
    have n1 := L.pos
    have n3 : zs.length < 4 := by have := L.le; omega
    have hrc := gb_mem hG hm
    have hal := rch_all n3 n1 (by omega) hes hrc
    obtain ⟨hlen, hhl, hdis⟩ := all_mem hal
    obtain ⟨ua, hus, rfl, hua, hru⟩ := id hsv
    have lus := hru.len
    refine ⟨_, (pss_cons (ps_setLc (i := 1) (own := [("_", 2)]) (g := (gName 2)) (tt := tYes) rfl sc_Circle_ring.nd rfl rfl (sw_true rfl rfl rfl (by decide +kernel)) (pi_tup (pe_fld (pv 0) rfl)) (blkOk_by (N := ["self", "programs", "_", "order", "helds", "at", "step", "steps"]) (sc := defScope s_Circle_ring) (by decide +kernel)) (fun _ _ _ _ _ => (pg_name (i := 2) sc_Circle_ring.nd rfl (Or.inl rfl))) (fun _ _ _ _ _ => pts_nil) (fun _ _ _ _ _ => (pe_lst pa_nil)))
      (pss_cons (ps_set (i := 3) sc_Circle_ring.nd rfl (Or.inl rfl) (pe_lst pa_nil))
      (pss_cons (ps_set (i := 4) sc_Circle_ring.nd rfl (Or.inl rfl) (pe_fld (pv 0) rfl))
      (pss_cons (ps_while PassesOwn.never (pt_cmpR op_notN (pe_nget hr.units (pe_fld (pv 0) rfl) (pv 4) (fun _ _ => rfl)) pe_non (nomark _)) (pss_cons (ps_asg (pe_nget hr.units (pe_fld (pv 0) rfl) (pv 4) (fun _ _ => rfl)) (pg_tup (n := 3) (by rfl) (pgs_cons (pg_name (i := 4) sc_Circle_ring.nd rfl (Or.inl rfl)) (pgs_cons (pg_name (i := 5) sc_Circle_ring.nd rfl (Or.inl rfl)) (pgs_cons (pg_name (i := 6) sc_Circle_ring.nd rfl (Or.inl rfl)) pgs_nil)))))
      (pss_cons (ps_expr (pe_bm PySem.F.plainAttrs_list PySem.F.slot_list_append PySem.F.type_list_append mt_append (pe_ix (r := rIxL K) ix_list (pv 1) (pv 5) (fun _ _ => rfl)) (pa_cons (pv 6) pa_nil)))
      (pss_one (ps_expr (pe_bm PySem.F.plainAttrs_list PySem.F.slot_list_append PySem.F.type_list_append mt_append (pv 3) (pa_cons (pv 5) pa_nil)))))))
      (pss_one (ps_ret (pe_make M_Ring G_Ring_init (hr.mono (by decide)) rfl RI.k bI_Ring .nil pass0 (pa_cons (pe_fld (pv 0) rfl) (pa_cons (pe_lc (own := [("steps", 7)]) (g := (gName 7)) (tt := tYes) rfl sc_Circle_ring.nd (pi_list (pv 1)) (blkOk_by (N := ["self", "programs", "_", "order", "helds", "at", "step", "steps"]) (sc := defScope s_Circle_ring) (by decide +kernel)) (fun _ _ _ _ _ => (pg_name (i := 7) sc_Circle_ring.nd rfl (Or.inl rfl))) (fun _ _ _ _ _ => pts_nil) (fun _ _ _ _ _ => (pe_revL (pv 7) : PE _ _ (tRevL K _)))) (pa_cons (pe_meth (pv 0) C.cl ME_Circle_wants_at G_Circle_wants_at (hr.mono (by decide)) bM_Circle_wants_at .nil pass0 (pa_cons (pe_fld (pv 0) rfl) pa_nil)) (pa_cons (pe_revL (pv 3)) pa_nil))))))))))), ?_⟩
    try simp (maxSteps := 1000000) only [tSeq, tIfS, tTest, tOp, tUn, tCB, tCons, tNil, tVar, tC, rI0, rI, rU, rEq, rNe, tRet, tRetN, tAsg, gName, gSub, tBM, tBM0, tNext, tB, tNot, tAnd, tOr, tIf, tCall, tDrop, tBreak, tCont, L2.start, tDGet, sDPut, tTup, tLst, tDNewK, tRevL, rCat, rAppend, rPop, rSetL, tAndV, tOrV, tNotV, tSl, tPart, tNoPart, tM1, gTup, gCons, gNil, cxK, cxnK, List.map_cons, List.map_nil, List.length_cons, List.length_nil, List.replicate, List.cons_append, List.nil_append, List.append_nil, List.set_cons_zero, List.set_cons_succ, List.getElem?_cons_zero, List.getElem?_cons_succ, Option.some.injEq, V.ref.injEq, V.int.injEq, V.str.injEq, V.bl.injEq, V.ty.injEq, exists_eq_left', exists_eq_left, exists_and_left, List.cons.injEq, and_true, true_and, sc_ii, sc_ss, sc_bb, sc_ni, sc_in, sc_is, sc_si, sc_nn, decide_true, decide_false, reduceCtorEq, Bool.false_eq_true, if_true, if_false, ite_true, ite_false, exists_const, eq_self, false_and, and_false, or_false, false_or, exists_false, Evl.rLenS, rSum, wipe, tYes, exists_eq, exists_eq', rIxL, rIxT, rIxS, exists_and_right, gt_iff_lt, not_true_eq_false, not_false_eq_true, Bool.not_true, Bool.not_false, decide_eq_true_eq, Nat.reduceSub, Nat.reduceAdd, List.append_assoc, tChain, tDIn, tDNotIn, sDDel, tAug, ipI, rInt1_int, rInt1_bl, tMeth, tFld, tNGet]
    refine ⟨.ref o, rfl, o, CC, cp.dx, _, .ref ua, rfl, ho, C.cl, C.n5, rfl, ua, rfl, ⟨_, sq_t hua⟩, fun D nD => ?_⟩
    refine lc_tup (xs := hus) (fun i H' => ∃ as : List Addr, as.length = i ∧ H' D = some (.lst (as.map V.ref)) ∧ as.Nodup ∧ D ∉ as ∧ (∀ a ∈ as, H a = none ∧ H' a = some (.lst [])) ∧ Kp [] H H') ⟨[], rfl, upd_same, List.nodup_nil, (fun h => nomatch h), (fun _ h => nomatch h), Kp.new nD⟩ (fun i H' _ h => by obtain ⟨_, _, _, _, _, _, k⟩ := h; exact sq_t (k _ _ not0 hua)) (fun i x H' hx h => ?_) fun H1 h => ?_
    · obtain ⟨as, la, hD, nda, Dn, hal, k⟩ := h
      have li : i < hus.length := (List.getElem?_eq_some_iff.mp hx).1
      refine ⟨by simp [wipe], ?_⟩
      try simp (maxSteps := 1000000) only [tSeq, tIfS, tTest, tOp, tUn, tCB, tCons, tNil, tVar, tC, rI0, rI, rU, rEq, rNe, tRet, tRetN, tAsg, gName, gSub, tBM, tBM0, tNext, tB, tNot, tAnd, tOr, tIf, tCall, tDrop, tBreak, tCont, L2.start, tDGet, sDPut, tTup, tLst, tDNewK, tRevL, rCat, rAppend, rPop, rSetL, tAndV, tOrV, tNotV, tSl, tPart, tNoPart, tM1, gTup, gCons, gNil, cxK, cxnK, List.map_cons, List.map_nil, List.length_cons, List.length_nil, List.replicate, List.cons_append, List.nil_append, List.append_nil, List.set_cons_zero, List.set_cons_succ, List.getElem?_cons_zero, List.getElem?_cons_succ, Option.some.injEq, V.ref.injEq, V.int.injEq, V.str.injEq, V.bl.injEq, V.ty.injEq, exists_eq_left', exists_eq_left, exists_and_left, List.cons.injEq, and_true, true_and, sc_ii, sc_ss, sc_bb, sc_ni, sc_in, sc_is, sc_si, sc_nn, decide_true, decide_false, reduceCtorEq, Bool.false_eq_true, if_true, if_false, ite_true, ite_false, exists_const, eq_self, false_and, and_false, or_false, false_or, exists_false, Evl.rLenS, rSum, wipe, tYes, exists_eq, exists_eq', rIxL, rIxT, rIxS, exists_and_right, gt_iff_lt, not_true_eq_false, not_false_eq_true, Bool.not_true, Bool.not_false, decide_eq_true_eq, Nat.reduceSub, Nat.reduceAdd, List.append_assoc, tChain, tDIn, tDNotIn, sDDel, tAug, ipI, rInt1_int, rInt1_bl]
      refine ⟨Nat.zero_le _, fun a na => ?_⟩
      have aD : a ≠ D := fun z => by rw [z, hD] at na; cases na
      have hD2 : (upd H' a (.lst [])) D = some (.lst (as.map V.ref)) := by rw [upd_ne (fun z => aD z.symm)]; exact hD
      have aas : a ∉ as := fun z => by have := (hal a z).2; rw [na] at this; cases this
      refine ⟨_, hD2, by rw [List.length_map]; exact smallL (by omega), as ++ [a], by rw [List.length_append, la]; rfl, by rw [upd_same, List.map_append]; rfl, List.nodup_append.mpr ⟨nda, by simp, fun x hx y hy e => aas (by rw [← List.mem_singleton.mp hy, ← e]; exact hx)⟩, fun z => ?_, fun b hb => ?_, (k.trans (Kp.new na)).wr nD⟩
      · rcases List.mem_append.mp z with z | z
        · exact Dn z
        · exact aD (List.mem_singleton.mp z).symm
      · have bD : b ≠ D := fun z => by
          rcases List.mem_append.mp hb with h | h
          · exact Dn (z ▸ h)
          · exact aD ((List.mem_singleton.mp h).symm.trans z)
        rcases List.mem_append.mp hb with h | h
        · have ba : b ≠ a := fun z => aas (z ▸ h)
          exact ⟨(hal b h).1, by rw [upd_ne bD, upd_ne ba]; exact (hal b h).2⟩
        · rw [List.mem_singleton.mp h] at bD ⊢
          exact ⟨k.free0 na, by rw [upd_ne bD]; exact upd_same⟩
    · obtain ⟨as, la, hD, nda, Dn, has, k1⟩ := h
      rw [lus, hlen] at la
      refine ⟨Nat.zero_le _, fun ol nol => ?_⟩
      have ko := (Kp.new nol : Kp [] H1 (upd H1 ol (.lst [])))
      have hol : (upd H1 ol (.lst [])) ol = some (.lst []) := upd_same
      have Pg : PgsAt zs H D (upd H1 ol (.lst [])) as fun _ => [] := PgsAt.mv ⟨hD, nda, Dn, fun a ha => (has a ha).1, fun i a e => ⟨[], (has a (List.mem_of_getElem? e)).2, .nil⟩⟩ ko
      have olas : ol ∉ as := fun z => by have := (has ol z).2; rw [nol] at this; cases this
      have olD : ol ≠ D := fun z => by rw [z, hD] at nol; cases nol
      have nol0 := k1.free0 nol
      have k2 := k1.trans ko
      generalize upd H1 ol (.lst []) = H2 at k2 hol Pg ⊢
      have ho2 := k2 _ _ not0 ho
      refine ⟨CC, cp.dx, _, ho2, C.cl, C.n5, .ref ua, rfl, ?_⟩
      obtain ⟨j0, ej0⟩ := List.getElem?_of_mem hm
      have j64 : j0 < 64 := by
        have := (List.getElem?_eq_some_iff.mp ej0).1
        have l := gb_len n3 n1 (by omega) hes hG
        unfold keysB at this
        rw [List.length_map] at this
        omega
      refine ⟨fun j σ H' => ∃ (g : Jt) (p : List Stp) (gv : V) (c2 c5 c6 c7 : Option V), σ = [some (.ref o), some (.ref D), c2, some (.ref ol), some gv, c5, c6, c7] ∧ JT zs H' gv g ∧ (keysB B)[j]? = some g ∧ PthJ zs.length es g p hs ∧ p.length + j ≤ 64 ∧ PgsAt zs H D H' as (fun i => (prgJ p i).reverse) ∧ H' ol = some (.lst (intsL (p.map (·.1)).reverse)) ∧ Kp [] H H', ⟨j0, hs, [], _, _, _, _, _, rfl, JT.tp hsv k2.tps, ej0, rfl, by simp; omega, Pg, hol, k2⟩, ?_⟩
      rintro j σ H3 ⟨g, p, gv, c2, c5, c6, c7, rfl, hJ3, ej, hp, pl, Pg3, hol3, k3⟩
      obtain ⟨x, ex⟩ := keys_get.mp ej
      have hC3 := hC.mv k3
      have ho3 := k3 _ _ not0 ho
      obtain ⟨kvs, v, hdk, hvl, hbv⟩ := hC3.get hG (by omega) ex
      try simp (maxSteps := 1000000) only [tSeq, tIfS, tTest, tOp, tUn, tCB, tCons, tNil, tVar, tC, rI0, rI, rU, rEq, rNe, tRet, tRetN, tAsg, gName, gSub, tBM, tBM0, tNext, tB, tNot, tAnd, tOr, tIf, tCall, tDrop, tBreak, tCont, L2.start, tDGet, sDPut, tTup, tLst, tDNewK, tRevL, rCat, rAppend, rPop, rSetL, tAndV, tOrV, tNotV, tSl, tPart, tNoPart, tM1, gTup, gCons, gNil, cxK, cxnK, List.map_cons, List.map_nil, List.length_cons, List.length_nil, List.replicate, List.cons_append, List.nil_append, List.append_nil, List.set_cons_zero, List.set_cons_succ, List.getElem?_cons_zero, List.getElem?_cons_succ, Option.some.injEq, V.ref.injEq, V.int.injEq, V.str.injEq, V.bl.injEq, V.ty.injEq, exists_eq_left', exists_eq_left, exists_and_left, List.cons.injEq, and_true, true_and, sc_ii, sc_ss, sc_bb, sc_ni, sc_in, sc_is, sc_si, sc_nn, decide_true, decide_false, reduceCtorEq, Bool.false_eq_true, if_true, if_false, ite_true, ite_false, exists_const, eq_self, false_and, and_false, or_false, false_or, exists_false, Evl.rLenS, rSum, wipe, tYes, exists_eq, exists_eq', rIxL, rIxT, rIxS, exists_and_right, gt_iff_lt, not_true_eq_false, not_false_eq_true, Bool.not_true, Bool.not_false, decide_eq_true_eq, Nat.reduceSub, Nat.reduceAdd, List.append_assoc, tChain, tDIn, tDNotIn, sDDel, tAug, ipI, rInt1_int, rInt1_bl, tMeth, tFld, tNGet]
      refine ⟨CC, cp.dx, _, ho3, C.cl, C.n4, .ref cp.bl, rfl, cp.bl, rfl, kvs, hdk, _, hJ3.key, v, hvl, ?_⟩
      cases x with
      | none =>
        have hbv : v = .non := hbv
        rw [if_neg (by rw [decide_eq_true hbv]; decide)]
        have ej0 := hG.none _ _ ex
        subst ej0
        rw [hG.head] at ex
        cases ex
        try simp (maxSteps := 1000000) only [tSeq, tIfS, tTest, tOp, tUn, tCB, tCons, tNil, tVar, tC, rI0, rI, rU, rEq, rNe, tRet, tRetN, tAsg, gName, gSub, tBM, tBM0, tNext, tB, tNot, tAnd, tOr, tIf, tCall, tDrop, tBreak, tCont, L2.start, tDGet, sDPut, tTup, tLst, tDNewK, tRevL, rCat, rAppend, rPop, rSetL, tAndV, tOrV, tNotV, tSl, tPart, tNoPart, tM1, gTup, gCons, gNil, cxK, cxnK, List.map_cons, List.map_nil, List.length_cons, List.length_nil, List.replicate, List.cons_append, List.nil_append, List.append_nil, List.set_cons_zero, List.set_cons_succ, List.getElem?_cons_zero, List.getElem?_cons_succ, Option.some.injEq, V.ref.injEq, V.int.injEq, V.str.injEq, V.bl.injEq, V.ty.injEq, exists_eq_left', exists_eq_left, exists_and_left, List.cons.injEq, and_true, true_and, sc_ii, sc_ss, sc_bb, sc_ni, sc_in, sc_is, sc_si, sc_nn, decide_true, decide_false, reduceCtorEq, Bool.false_eq_true, if_true, if_false, ite_true, ite_false, exists_const, eq_self, false_and, and_false, or_false, false_or, exists_false, Evl.rLenS, rSum, wipe, tYes, exists_eq, exists_eq', rIxL, rIxT, rIxS, exists_and_right, gt_iff_lt, not_true_eq_false, not_false_eq_true, Bool.not_true, Bool.not_false, decide_eq_true_eq, Nat.reduceSub, Nat.reduceAdd, List.append_assoc, tChain, tDIn, tDNotIn, sDDel, tAug, ipI, rInt1_int, rInt1_bl, tMake, tMeth, tFld]
        have hll3 : H3 cp.ll = some (.lst (zs.map V.str)) := hC3.kp _ _ (not1 fun z => by have := hC3.bo; rw [← z, hC3.lk] at this; cases this) hC3.lk
        have hrs : Rw (PrAt zs H3) (as.map V.ref) ((List.range m).map fun i => (prgJ p i).reverse) := ⟨by rw [List.length_map, List.length_map, List.length_range, la], fun {i u} e => by
          rw [List.getElem?_map] at e
          cases e1 : as[i]? with
          | none => rw [e1] at e; cases e
          | some a =>
            rw [e1] at e
            obtain ⟨us, h1, h2⟩ := Pg3.at_ i a e1
            have := (List.getElem?_eq_some_iff.mp e1).1
            exact ⟨_, by rw [List.getElem?_map, List.getElem?_range (by omega)]; rfl, a, us, (Option.some.inj e).symm, h1, h2⟩⟩
        refine ⟨CC, cp.dx, _, ho3, C.cl, C.n2, .ref cp.ll, rfl, ?_⟩
        refine lcK (R := PrAt zs) (R2 := fun D H v x => PrN zs H3 D H v x.reverse) (fun _ _ _ _ k h => h.kp k) (fun D H H' v x ys h k r => PrN.mono D H H' v _ ys h k r) (src_list (fun R q' => ⟨_, rfl, q'⟩) (sq_l Pg3.lst)) hrs (by rw [List.length_map, List.length_range]; omega) (fun D2 v x H' Q' hx hv k hD2 hQ => ?_) fun D2 us' H4 nD2 hD2 hrw k4 => ?_
        · obtain ⟨a, ua2, rfl, ha, hua2⟩ := hv
          try simp (maxSteps := 1000000) only [tSeq, tIfS, tTest, tOp, tUn, tCB, tCons, tNil, tVar, tC, rI0, rI, rU, rEq, rNe, tRet, tRetN, tAsg, gName, gSub, tBM, tBM0, tNext, tB, tNot, tAnd, tOr, tIf, tCall, tDrop, tBreak, tCont, L2.start, tDGet, sDPut, tTup, tLst, tDNewK, tRevL, rCat, rAppend, rPop, rSetL, tAndV, tOrV, tNotV, tSl, tPart, tNoPart, tM1, gTup, gCons, gNil, cxK, cxnK, List.map_cons, List.map_nil, List.length_cons, List.length_nil, List.replicate, List.cons_append, List.nil_append, List.append_nil, List.set_cons_zero, List.set_cons_succ, List.getElem?_cons_zero, List.getElem?_cons_succ, Option.some.injEq, V.ref.injEq, V.int.injEq, V.str.injEq, V.bl.injEq, V.ty.injEq, exists_eq_left', exists_eq_left, exists_and_left, List.cons.injEq, and_true, true_and, sc_ii, sc_ss, sc_bb, sc_ni, sc_in, sc_is, sc_si, sc_nn, decide_true, decide_false, reduceCtorEq, Bool.false_eq_true, if_true, if_false, ite_true, ite_false, exists_const, eq_self, false_and, and_false, or_false, false_or, exists_false, Evl.rLenS, rSum, wipe, tYes, exists_eq, exists_eq', rIxL, rIxT, rIxS, exists_and_right, gt_iff_lt, not_true_eq_false, not_false_eq_true, Bool.not_true, Bool.not_false, decide_eq_true_eq, Nat.reduceSub, Nat.reduceAdd, List.append_assoc, tChain, tDIn, tDNotIn, sDDel, tAug, ipI, rInt1_int, rInt1_bl]
          refine ⟨ua2, sq_l ha, fun l nl => ?_⟩
          have kl := (Kp.new nl : Kp [] H' (upd H' l (.lst ua2.reverse)))
          obtain ⟨ys, hD2⟩ := hD2
          refine hQ _ _ ⟨l, ua2.reverse, rfl, (fun z => by rw [z, hD2] at nl; cases nl), k.free0 nl, upd_same, ?_⟩ kl
          exact rw_rev (hua2.mono fun _ _ z => z.tp kl.tps)
        · have k34 := k3.trans k4
          have ho4 := k34 _ _ not0 ho
          have hC4 := hC.mv k34
          refine ⟨cp.dx, _, ho4, rfl, CC, cp.dx, _, ho4, C.cl, C.n5, .ref ua, rfl, ?_⟩
          refine ⟨o, .ref ua, cp, Hb, zs, es, B, some hs, hs, rfl, hC4, JT.tp hsv k34.tps, hhl, by omega, by omega, fun wl H5 nwl hwl k5 => ?_⟩
          have k45 := k4.trans k5
          refine ⟨_, sq_l (k45 _ _ not0 hol3), fun ol2 nol2 => ?_⟩
          have k6 := (Kp.new nol2 : Kp [] H5 (upd H5 ol2 (.lst (intsL (p.map (·.1)).reverse).reverse)))
          have hol2 : (upd H5 ol2 (.lst (intsL (p.map (·.1)).reverse).reverse)) ol2 = some (.lst (intsL (p.map (·.1)))) := by
            rw [upd_same]
            unfold intsL
            rw [← List.map_reverse, List.reverse_reverse]
          generalize upd H5 ol2 (.lst (intsL (p.map (·.1)).reverse).reverse) = H6 at k6 hol2 ⊢
          have k56 := k5.trans k6
          have hps : Rw (PrAt zs H6) us' ((List.range m).map (prgJ p)) := by
            have := rw_map (f := List.reverse) (hrw.mono fun _ _ (z : PrN zs H3 D2 H4 _ _) => (z.at).kp k56)
            rw [List.map_map] at this
            have e : ((List.range m).map (List.reverse ∘ fun i => (prgJ p i).reverse)) = (List.range m).map (prgJ p) := List.map_congr_left fun i _ => by simp
            rw [e] at this
            exact this
          refine mkRg (k45.trans k6 _ _ not0 hll3) (k56 _ _ not0 hD2) hps (by rw [List.length_map, List.length_range]; omega) (k6 _ _ not0 hwl) hol2 fun r H7 nr hRg k7 => ?_
          have k36 := k3.trans (k45.trans k6)
          exact q r H7 p (k36.free0 nr) hp (by omega) hRg (k36.trans k7)
      | some y =>
        obtain ⟨g', i, b, r⟩ := y
        obtain ⟨va, gu, st, rfl, hva, hgu, hst⟩ := hbv
        rw [if_pos (by simp)]
        obtain ⟨j', jl, ej', ok, eg⟩ := hG.back _ _ _ _ ex
        refine ⟨_, fun _ _ h => h, CC, cp.dx, _, ho3, C.cl, C.n4, .ref cp.bl, rfl, cp.bl, rfl, kvs, hdk, _, hJ3.key, _, hvl, va, rfl, _, sq_t hva, rfl, _, _, rfl, _, _, rfl, _, _, rfl, rfl, ?_⟩
        have il : i < m := by
          have h1 := (all_mem (rch_all n3 n1 (by omega) hes (gb_rch hG j' ej'))).1
          rw [← h1]
          exact ok.1
        obtain ⟨a, ea⟩ : ∃ a, as[i]? = some a := ⟨as[i]'(by omega), List.getElem?_eq_getElem (by omega)⟩
        obtain ⟨us, hau, hus'⟩ := Pg3.at_ i a ea
        try simp (maxSteps := 1000000) only [tSeq, tIfS, tTest, tOp, tUn, tCB, tCons, tNil, tVar, tC, rI0, rI, rU, rEq, rNe, tRet, tRetN, tAsg, gName, gSub, tBM, tBM0, tNext, tB, tNot, tAnd, tOr, tIf, tCall, tDrop, tBreak, tCont, L2.start, tDGet, sDPut, tTup, tLst, tDNewK, tRevL, rCat, rAppend, rPop, rSetL, tAndV, tOrV, tNotV, tSl, tPart, tNoPart, tM1, gTup, gCons, gNil, cxK, cxnK, List.map_cons, List.map_nil, List.length_cons, List.length_nil, List.replicate, List.cons_append, List.nil_append, List.append_nil, List.set_cons_zero, List.set_cons_succ, List.getElem?_cons_zero, List.getElem?_cons_succ, Option.some.injEq, V.ref.injEq, V.int.injEq, V.str.injEq, V.bl.injEq, V.ty.injEq, exists_eq_left', exists_eq_left, exists_and_left, List.cons.injEq, and_true, true_and, sc_ii, sc_ss, sc_bb, sc_ni, sc_in, sc_is, sc_si, sc_nn, decide_true, decide_false, reduceCtorEq, Bool.false_eq_true, if_true, if_false, ite_true, ite_false, exists_const, eq_self, false_and, and_false, or_false, false_or, exists_false, Evl.rLenS, rSum, wipe, tYes, exists_eq, exists_eq', rIxL, rIxT, rIxS, exists_and_right, gt_iff_lt, not_true_eq_false, not_false_eq_true, Bool.not_true, Bool.not_false, decide_eq_true_eq, Nat.reduceSub, Nat.reduceAdd, List.append_assoc, tChain, tDIn, tDNotIn, sDDel, tAug, ipI, rInt1_int, rInt1_bl]
        have ea' : atI (as.map V.ref) (i : Nat) = some (.ref a) := atI_nat (by rw [List.getElem?_map, ea]; rfl)
        have aol : a ≠ ol := fun z => olas (by rw [← z]; exact List.mem_of_getElem? ea)
        have pgl : (prgJ p i).length ≤ 64 := by
          unfold prgJ
          rw [List.length_map]
          have := List.length_filter_le (fun s : Stp => decide (s.1 = i)) p
          omega
        have t4 : Tp H3 (upd H3 a (.lst (us ++ [st]))) := (Tp.refl _).putL hau
        have hol4 : (upd H3 a (.lst (us ++ [st]))) ol = some (.lst (intsL (p.map (·.1)).reverse)) := by rw [upd_ne (Ne.symm aol)]; exact hol3
        have Pg4 : PgsAt zs H D (upd H3 a (.lst (us ++ [st]))) as (fun j => (prgJ ((i, b, r) :: p) j).reverse) := Pg3.push ea hau hus' hst (by
          show (prgJ ((i, b, r) :: p) i).reverse = _
          rw [prg_cons, if_pos rfl, List.reverse_cons]) fun j hj => by
          show (prgJ ((i, b, r) :: p) j).reverse = _
          rw [prg_cons, if_neg hj]
        have k4 : Kp [] H (upd H3 a (.lst (us ++ [st]))) := k3.wr ((Pg3.new a (List.mem_of_getElem? ea)))
        refine ⟨_, sq_l Pg3.lst, _, ea', .inl ⟨rfl, _, sq_l hau⟩, a, rfl, us, hau, by rw [hus'.len, List.length_reverse]; exact smallL (by omega), ?_⟩
        generalize upd H3 a (.lst (us ++ [st])) = H4 at t4 hol4 Pg4 k4 ⊢
        have t5 : Tp H4 (upd H4 ol (.lst (intsL (p.map (·.1)).reverse ++ [V.int (i : Nat)]))) := (Tp.refl _).putL hol4
        refine ⟨.inl ⟨rfl, _, sq_l hol4⟩, _, hol4, by unfold intsL; rw [List.length_map, List.length_reverse, List.length_map]; exact smallL (by omega), j', jl, g', (hgu.tp t4).tp t5, ej', (i, b, r) :: p, ⟨ok, by rw [← eg]; exact hp⟩, by rw [List.length_cons]; omega, Pg4.wr hol4 olas olD, ?_, k4.wr nol0⟩
        rw [upd_same, List.map_cons, List.reverse_cons]
        unfold intsL
        rw [List.map_append]
        rfl
end
end My

set_option Elab.async false
set_option linter.all false
set_option maxRecDepth 100000
set_option maxHeartbeats 4000000
namespace My
open PySem L2 NdefX
abbrev s_ring_of : Stmt := top 25
theorem sc_ring_of : FnScope ["rule", "many", "circle"] ["rule"] (defScope s_ring_of) := ⟨rfl, rfl, rfl, by decide +kernel, rfl, by decide +kernel, by decide +kernel⟩
section
variable {P : Program} {w : World} {K : PySem.W.Frag} {mg : Str → Option Value} {base : Heap} {RC CC RG : Addr}
/-- no ring of m programs can come about -/
def FreeJ (n m : Nat) (es : List En) : Prop := ∀ hs, RchJ n m es hs → stuckJ es hs = false
def spRof (P : Program) (w : World) (RC RG : Addr) : Sp := fun vs H Q _ => ∃ (ro : Addr) (zs : List Str) (es : List En), vs = [.ref ro] ∧ RuAt RC H ro zs es ∧
  (∀ m hs r H' p, 2 ≤ m → m ≤ zs.length → stuckJ es hs = true → (∀ k, 2 ≤ k → k < m → FreeJ zs.length k es) → H r = none → PthJ zs.length es (List.replicate m []) p hs → p.length ≤ 64 → RgAt RG zs H' r ((List.range m).map (prgJ p)) (wantsJ es hs) (p.map (·.1)) → Kp [] H H' → Q (.ref r) H') ∧
  ((∀ m, 2 ≤ m → m ≤ zs.length → FreeJ zs.length m es) → ∀ H', Kp [] H H' → Q .non H')
theorem mkCi {H : Hp} {ro : Addr} {zs : List Str} {es : List En} {m : Nat} {Q : Addr → Hp → Prop} {E : XK} (hR : RuAt RC H ro zs es) (m1 : 1 ≤ m) (m3 : m ≤ 3)
    (q : ∀ o c Hb H' B st, H o = none → CiAt P w RC CC c Hb H' o zs es B st → GB zs.length m es B → CiEnd zs.length m es B st → Kp [] H H' → Q o H') (o dx : Addr) (no : H o = none) (ndx : H dx = none) (dxo : dx ≠ o) :
    spCiI P w RC CC [.ref o, .ref ro, .int (m : Nat)] (upd (upd H dx (.own o)) o (.ins CC dx [])) (fun v H2 => v = .non ∧ Q o H2) E := by
  have k : Kp [] H (upd (upd H dx (.own o)) o (.ins CC dx [])) := (Kp.new ndx).wr no
  refine ⟨o, dx, ro, zs, es, m, rfl, upd_same, hR.kp k, m1, m3, fun c Hb H' B st hC hG hE kI => ⟨rfl, ?_⟩⟩
  exact q o c Hb H' B st no hC hG hE fun b ob _ e => (k.of0.trans kI) b ob (not1 fun z => by rw [z, no] at e; cases e) e
theorem ok_ring_of {f : Addr} {fd : FuncData} (D : Df K mg "ring_of" s_ring_of ["rule"] f fd) (T : BtC mg) (C : CiC K mg CC) (RR : RuC K mg RC) (ne : CC ≠ RC)
    {f1 : Addr} {fd1 : FuncData} (ME_Rule_locks : Meth K RC "locks" f1) (bM_Rule_locks : Binds K fd1 ["self"] []) (G_Rule_locks : FnOk P w K mg base CX0 1 f1 fd1 ["self"] (spRuL RC))
    {fI : Addr} {fdI : FuncData} (M_Circle : Mk K CC fI) (bI_Circle : Binds K fdI ["self", "rule", "many"] []) (G_Circle_init : FnOk P w K mg base CX0 8 fI fdI ["self", "rule", "many"] (spCiI P w RC CC))
    {f3 : Addr} {fd3 : FuncData} (ME_Circle_ring : Meth K CC "ring" f3) (bM_Circle_ring : Binds K fd3 ["self"] []) (G_Circle_ring : FnOk P w K mg base CX0 7 f3 fd3 ["self"] (spRing P w RC CC RG)) :
    FnOk P w K mg base CX0 10 f fd ["rule"] (spRof P w RC RG) := by
  refine D.F.ok sc_ring_of (fun vs H Q E h => ?_) (fun cdv A outer s H vs Q E hr h => ?_)
  · obtain ⟨_, _, _, rfl, _⟩ := h
    rfl
  · obtain ⟨ro, zs, es, rfl, hR, q1, q2⟩ := h
    have hu := hu_of hr
    obtain ⟨dxr, _, _, _, hro, _, _, _, L, hes⟩ := id hR
    have n1 := L.pos
    have n3 : zs.length < 4 := by have := L.le; omega
    refine ⟨_, (pss_cons (ps_for PassesOwn.never rfl (pi_range2 rfl T.b_range (pa_cons pe_int (pa_cons (pe_op op_add (pe_callB (id := "len") (r := Evl.rLenS K) call_len_seq (by rfl) T.b_len PySem.boot_len (pa_cons (pe_meth0 (pv 0) RR.cl ME_Rule_locks G_Rule_locks (hr.mono (by decide)) bM_Rule_locks .nil pass0) pa_nil)) pe_int) pa_nil))) (pg_name (i := 1) sc_ring_of.nd rfl (Or.inl rfl)) (pss_cons (ps_set (i := 2) sc_ring_of.nd rfl (Or.inl rfl) (pe_make M_Circle G_Circle_init (hr.mono (by decide)) rfl C.k bI_Circle .nil pass0 (pa_cons (pv 0) (pa_cons (pv 1) pa_nil))))
      (pss_one (ps_if (pt_cmpR op_notN (pe_fld (pv 2) rfl) pe_non (nomark _)) (pss_one (ps_ret (pe_meth0 (pv 2) C.cl ME_Circle_ring G_Circle_ring (hr.mono (by decide)) bM_Circle_ring .nil pass0))) pss_nil))))
      (pss_one (ps_ret pe_non))), ?_⟩
    try simp (maxSteps := 1000000) only [tSeq, tIfS, tTest, tOp, tUn, tCB, tCons, tNil, tVar, tC, rI0, rI, rU, rEq, rNe, tRet, tRetN, tAsg, gName, gSub, tBM, tBM0, tNext, tB, tNot, tAnd, tOr, tIf, tCall, tDrop, tBreak, tCont, L2.start, tDGet, sDPut, tTup, tLst, tDNewK, tRevL, rCat, rAppend, rPop, rSetL, tAndV, tOrV, tNotV, tSl, tPart, tNoPart, tM1, gTup, gCons, gNil, cxK, cxnK, List.map_cons, List.map_nil, List.length_cons, List.length_nil, List.replicate, List.cons_append, List.nil_append, List.append_nil, List.set_cons_zero, List.set_cons_succ, List.getElem?_cons_zero, List.getElem?_cons_succ, Option.some.injEq, V.ref.injEq, V.int.injEq, V.str.injEq, V.bl.injEq, V.ty.injEq, exists_eq_left', exists_eq_left, exists_and_left, List.cons.injEq, and_true, true_and, sc_ii, sc_ss, sc_bb, sc_ni, sc_in, sc_is, sc_si, sc_nn, decide_true, decide_false, reduceCtorEq, Bool.false_eq_true, if_true, if_false, ite_true, ite_false, exists_const, eq_self, false_and, and_false, or_false, false_or, exists_false, Evl.rLenS, rSum, wipe, tYes, exists_eq, exists_eq', rIxL, rIxT, rIxS, exists_and_right, gt_iff_lt, not_true_eq_false, not_false_eq_true, Bool.not_true, Bool.not_false, decide_eq_true_eq, Nat.reduceSub, Nat.reduceAdd, List.append_assoc, tChain, tDIn, tDNotIn, sDDel, tAug, ipI, rInt1_int, rInt1_bl]
    refine forN2 2 (zs.length + 1) (by decide) (by omega) (fun i σ H' => ∃ c1 c2, σ = [some (.ref ro), c1, c2] ∧ Kp [] H H' ∧ ∀ k, 2 ≤ k → k < 2 + i → FreeJ zs.length k es) ?_ ?_ ?_ ?_
    · intro R hR'
      try simp (maxSteps := 1000000) only [tSeq, tIfS, tTest, tOp, tUn, tCB, tCons, tNil, tVar, tC, rI0, rI, rU, rEq, rNe, tRet, tRetN, tAsg, gName, gSub, tBM, tBM0, tNext, tB, tNot, tAnd, tOr, tIf, tCall, tDrop, tBreak, tCont, L2.start, tDGet, sDPut, tTup, tLst, tDNewK, tRevL, rCat, rAppend, rPop, rSetL, tAndV, tOrV, tNotV, tSl, tPart, tNoPart, tM1, gTup, gCons, gNil, cxK, cxnK, List.map_cons, List.map_nil, List.length_cons, List.length_nil, List.replicate, List.cons_append, List.nil_append, List.append_nil, List.set_cons_zero, List.set_cons_succ, List.getElem?_cons_zero, List.getElem?_cons_succ, Option.some.injEq, V.ref.injEq, V.int.injEq, V.str.injEq, V.bl.injEq, V.ty.injEq, exists_eq_left', exists_eq_left, exists_and_left, List.cons.injEq, and_true, true_and, sc_ii, sc_ss, sc_bb, sc_ni, sc_in, sc_is, sc_si, sc_nn, decide_true, decide_false, reduceCtorEq, Bool.false_eq_true, if_true, if_false, ite_true, ite_false, exists_const, eq_self, false_and, and_false, or_false, false_or, exists_false, Evl.rLenS, rSum, wipe, tYes, exists_eq, exists_eq', rIxL, rIxT, rIxS, exists_and_right, gt_iff_lt, not_true_eq_false, not_false_eq_true, Bool.not_true, Bool.not_false, decide_eq_true_eq, Nat.reduceSub, Nat.reduceAdd, List.append_assoc, tChain, tDIn, tDNotIn, sDDel, tAug, ipI, rInt1_int, rInt1_bl, tMeth]
      refine ⟨dxr, _, hro, rfl, ro, zs, es, rfl, hR, fun l H1 nl hl k1 => ⟨l, rfl, _, .inl (sq_l hl), ?_⟩⟩
      have := hR' H1 k1
      rw [List.length_map]
      exact_mod_cast this
    · exact fun H1 k1 => ⟨_, _, rfl, k1, fun k h1 h2 => by omega⟩
    · rintro j σ H1 hj ⟨c1, c2, rfl, k1, hfree⟩
      have hR1 := hR.kp k1
      try simp (maxSteps := 1000000) only [tSeq, tIfS, tTest, tOp, tUn, tCB, tCons, tNil, tVar, tC, rI0, rI, rU, rEq, rNe, tRet, tRetN, tAsg, gName, gSub, tBM, tBM0, tNext, tB, tNot, tAnd, tOr, tIf, tCall, tDrop, tBreak, tCont, L2.start, tDGet, sDPut, tTup, tLst, tDNewK, tRevL, rCat, rAppend, rPop, rSetL, tAndV, tOrV, tNotV, tSl, tPart, tNoPart, tM1, gTup, gCons, gNil, cxK, cxnK, List.map_cons, List.map_nil, List.length_cons, List.length_nil, List.replicate, List.cons_append, List.nil_append, List.append_nil, List.set_cons_zero, List.set_cons_succ, List.getElem?_cons_zero, List.getElem?_cons_succ, Option.some.injEq, V.ref.injEq, V.int.injEq, V.str.injEq, V.bl.injEq, V.ty.injEq, exists_eq_left', exists_eq_left, exists_and_left, List.cons.injEq, and_true, true_and, sc_ii, sc_ss, sc_bb, sc_ni, sc_in, sc_is, sc_si, sc_nn, decide_true, decide_false, reduceCtorEq, Bool.false_eq_true, if_true, if_false, ite_true, ite_false, exists_const, eq_self, false_and, and_false, or_false, false_or, exists_false, Evl.rLenS, rSum, wipe, tYes, exists_eq, exists_eq', rIxL, rIxT, rIxS, exists_and_right, gt_iff_lt, not_true_eq_false, not_false_eq_true, Bool.not_true, Bool.not_false, decide_eq_true_eq, Nat.reduceSub, Nat.reduceAdd, List.append_assoc, tChain, tDIn, tDNotIn, sDDel, tAug, ipI, rInt1_int, rInt1_bl, tMake, tMeth, tFld]
      have m1 : 1 ≤ 2 + j := by omega
      have m3 : 2 + j ≤ 3 := by omega
      refine mkCi hR1 m1 m3 fun o c Hb H2 B st no hC hG hE k2 => ?_
      have k02 := k1.trans k2
      obtain ⟨sv, ho, hsv⟩ := id hC.ob
      refine ⟨CC, c.dx, _, ho, C.cl, C.n5, sv, rfl, ?_⟩
      cases st with
      | none =>
        have hsv : sv = .non := hsv
        rw [if_neg (by rw [decide_eq_true hsv]; decide)]
        refine ⟨k02, fun k h1 h2 => ?_⟩
        by_cases e : k = 2 + j
        · subst e; exact hE
        · exact hfree k h1 (by omega)
      | some hs =>
        have svn : sv ≠ .non := fun z => by
          obtain ⟨_, _, e, _⟩ := (show JT zs H2 sv hs from hsv)
          rw [z] at e; cases e
        rw [if_pos (by rw [decide_eq_false svn]; rfl)]
        obtain ⟨hm, sk⟩ := hE
        refine ⟨c.dx, _, ho, rfl, o, c, Hb, zs, es, B, hs, 2 + j, rfl, hC, hG, hm, m1, m3, fun r H3 p nr hp pl hRg k3 => ?_⟩
        exact q1 (2 + j) hs r H3 p (by omega) (by omega) sk (fun k h1 h2 => hfree k h1 h2) (k02.free0 nr) hp pl hRg (k02.trans k3)
    · rintro σ H1 ⟨c1, c2, rfl, k1, hfree⟩
      try simp (maxSteps := 1000000) only [tSeq, tIfS, tTest, tOp, tUn, tCB, tCons, tNil, tVar, tC, rI0, rI, rU, rEq, rNe, tRet, tRetN, tAsg, gName, gSub, tBM, tBM0, tNext, tB, tNot, tAnd, tOr, tIf, tCall, tDrop, tBreak, tCont, L2.start, tDGet, sDPut, tTup, tLst, tDNewK, tRevL, rCat, rAppend, rPop, rSetL, tAndV, tOrV, tNotV, tSl, tPart, tNoPart, tM1, gTup, gCons, gNil, cxK, cxnK, List.map_cons, List.map_nil, List.length_cons, List.length_nil, List.replicate, List.cons_append, List.nil_append, List.append_nil, List.set_cons_zero, List.set_cons_succ, List.getElem?_cons_zero, List.getElem?_cons_succ, Option.some.injEq, V.ref.injEq, V.int.injEq, V.str.injEq, V.bl.injEq, V.ty.injEq, exists_eq_left', exists_eq_left, exists_and_left, List.cons.injEq, and_true, true_and, sc_ii, sc_ss, sc_bb, sc_ni, sc_in, sc_is, sc_si, sc_nn, decide_true, decide_false, reduceCtorEq, Bool.false_eq_true, if_true, if_false, ite_true, ite_false, exists_const, eq_self, false_and, and_false, or_false, false_or, exists_false, Evl.rLenS, rSum, wipe, tYes, exists_eq, exists_eq', rIxL, rIxT, rIxS, exists_and_right, gt_iff_lt, not_true_eq_false, not_false_eq_true, Bool.not_true, Bool.not_false, decide_eq_true_eq, Nat.reduceSub, Nat.reduceAdd, List.append_assoc, tChain, tDIn, tDNotIn, sDDel, tAug, ipI, rInt1_int, rInt1_bl]
      exact q2 (fun m h1 h2 => hfree m h1 (by omega)) H1 k1
end
end My

set_option Elab.async false
set_option linter.all false
set_option maxRecDepth 100000
set_option maxHeartbeats 4000000
namespace My
open PySem L2 NdefX
abbrev s_reachable : Stmt := top 20
theorem sc_reachable : FnScope ["rule", "found", "waiting", "held", "goals", "name", "goal"] ["rule"] (defScope s_reachable) := ⟨rfl, rfl, rfl, by decide +kernel, rfl, by decide +kernel, by decide +kernel⟩
theorem keyH_dep {zs : List Str} {h : Hd} : (keyH zs h).depth ≤ 8 := Nat.le_trans keyH_dep2 (by decide)
theorem HT.key {zs : List Str} {H : Hp} {v : V} {h : Hd} (a : HT zs H v h) : NKey H v (keyH zs h) := by
  obtain ⟨p, rfl, hp⟩ := a
  exact ⟨p, rfl, .tup hp (nk_strs _), keyH_dep⟩
/-- what one step of a rule leads to -/
def nxtR (n : Nat) (es : List En) (h : Hd) : List Hd := (mayR es h ++ h).map fun r => aftR n r h
inductive RchR (n : Nat) (es : List En) : Hd → Prop
  | zero : RchR n es []
  | step {h g : Hd} (a : RchR n es h) (m : g ∈ nxtR n es h) : RchR n es g
noncomputable def rchB (n : Nat) (es : List En) (h : Hd) : Bool := @decide (RchR n es h) (Classical.propDecidable _)
theorem rchB_iff {n : Nat} {es : List En} {h : Hd} : rchB n es h = true ↔ RchR n es h := by
  unfold rchB
  exact @decide_eq_true_iff _ (Classical.propDecidable _)
def addF (F : List Hd) (gs : List Hd) : List Hd := gs.foldl (fun F g => if g ∈ F then F else F ++ [g]) F
theorem addF_snoc {F gs : List Hd} {g : Hd} : addF F (gs ++ [g]) = if g ∈ addF F gs then addF F gs else addF F gs ++ [g] := by
  unfold addF
  rw [List.foldl_append]
  rfl
theorem addF_nd : ∀ {gs F : List Hd}, F.Nodup → (addF F gs).Nodup
  | [], _, h => h
  | g :: gs, F, h => by
    show (addF (if g ∈ F then F else F ++ [g]) gs).Nodup
    refine addF_nd ?_
    split
    · exact h
    · rename_i hg
      exact List.nodup_append.mpr ⟨h, by simp, fun a ha b hb e => hg (by rw [← List.mem_singleton.mp hb, ← e]; exact ha)⟩
theorem addF_mem {x : Hd} : ∀ {gs F : List Hd}, x ∈ addF F gs ↔ x ∈ F ∨ x ∈ gs
  | [], F => by simp [addF]
  | g :: gs, F => by
    show x ∈ addF (if g ∈ F then F else F ++ [g]) gs ↔ _
    rw [addF_mem]
    split
    · rename_i hg
      rw [List.mem_cons]
      constructor
      · rintro (a | a)
        · exact .inl a
        · exact .inr (.inr a)
      · rintro (a | rfl | a)
        · exact .inl a
        · exact .inl hg
        · exact .inr a
    · rw [List.mem_append, List.mem_singleton, List.mem_cons]
      constructor
      · rintro ((a | a) | a)
        · exact .inl a
        · exact .inr (.inl a)
        · exact .inr (.inr a)
      · rintro (a | a | a)
        · exact .inl (.inl a)
        · exact .inl (.inr a)
        · exact .inr a
theorem addF_len {F gs : List Hd} (nd : F.Nodup) : F.length ≤ (addF F gs).length := nodup_lenP nd fun x hx => addF_mem.mpr (.inl hx)
theorem addF_lt {F gs : List Hd} (nd : F.Nodup) {g : Hd} (hg : g ∈ gs) (hF : g ∉ F) : F.length + 1 ≤ (addF F gs).length := by
  have : (F ++ [g]).length ≤ (addF F gs).length := nodup_lenP (List.nodup_append.mpr ⟨nd, by simp, fun a ha b hb e => hF (by rw [← List.mem_singleton.mp hb, ← e]; exact ha)⟩) fun x hx => by
    rcases List.mem_append.mp hx with hx | hx
    · exact addF_mem.mpr (.inl hx)
    · rw [List.mem_singleton.mp hx]; exact addF_mem.mpr (.inr hg)
  rw [List.length_append] at this
  exact this
theorem factM0 : ∀ n, n < 4 → 1 ≤ n → ((hls n).all fun h => decide ((mayR (ens n) h).length + h.length ≤ 3)) = true := by decide +kernel
theorem may_len3 {n : Nat} (h1 : n < 4) (h2 : 1 ≤ n) {es : List En} (hs : es.Sublist (ens n)) {h : Hd} (hh : h ∈ hls n) : (mayR es h).length + h.length ≤ 3 := by
  have a := of_decide_eq_true (List.all_eq_true.mp (factM0 n h1 h2) h hh)
  have b : (mayR es h).length ≤ (mayR (ens n) h).length := ((hs.filter _).map _).length_le
  omega
/-- while it goes on -/
def WRch (P : Program) (w : World) (zs : List Str) (es : List En) (o fd wl : Addr) (H : Hp) (k : Nat) (σ : L2.St) (H' : Hp) : Prop := ∃ (F W : List Hd) (us : List V) (kvs : List (NestedKey × V)) (c3 c4 c5 c6 : Option V), σ = [some (.ref o), some (.ref fd), some (.ref wl), c3, c4, c5, c6] ∧ DnAt P w H' fd kvs ∧ kvs.map (·.1) = F.map (keyH zs) ∧ H' wl = some (.lst us) ∧ Rw (HT zs H') us W ∧ F.Nodup ∧ (∀ x ∈ F, x ∈ hls zs.length ∧ RchR zs.length es x) ∧ [] ∈ F ∧ (∀ x ∈ W, x ∈ F) ∧ (∀ x ∈ F, x ∈ W ∨ ∀ g ∈ nxtR zs.length es x, g ∈ F) ∧ Kp [] H H' ∧ k = 4 * (8 - F.length) + W.length ∧ k ≤ 33
section
variable {P : Program} {w : World} {K : PySem.W.Frag} {mg : Str → Option Value} {base : Heap} {tL t3 : Tok} {RC : Addr}
def spReach (RC : Addr) : Sp := fun vs H Q _ => ∃ (o : Addr) (zs : List Str) (es : List En), vs = [.ref o] ∧ RuAt RC H o zs es ∧ ∀ l us H', H l = none → H' l = some (.lst us) → Rw (HT zs H') us ((hls zs.length).filter (rchB zs.length es)) → Kp [] H H' → Q (.ref l) H'
theorem ok_reachable {f : Addr} {fd : FuncData} (D : Df K mg "reachable" s_reachable ["rule"] f fd) (T : Bt mg tL t3) (RR : RuC K mg RC) {f1 : Addr} {fd1 : FuncData} (D_held_after : Df K mg "held_after" s_held_after ["held", "name", "locks"] f1 fd1) (G_held_after : FnOk P w K mg base CX0 1 f1 fd1 ["held", "name", "locks"] (spAft K)) {f2 : Addr} {fd2 : FuncData} (D_all_held : Df K mg "all_held" s_all_held ["locks"] f2 fd2) (G_all_held : FnOk P w K mg base CX0 2 f2 fd2 ["locks"] (spHeld K))
    {fG fL : Addr} {fdG fdL : FuncData} (GT_Rule : GetC K RC fG) (b_Rule_getitem : Binds K fdG ["self", "at"] []) (G_Rule_getitem : FnOk P w K mg base CX0 3 fG fdG ["self", "at"] (spRuG RC)) (ME_Rule_locks : Meth K RC "locks" fL) (bM_Rule_locks : Binds K fdL ["self"] []) (G_Rule_locks : FnOk P w K mg base CX0 1 fL fdL ["self"] (spRuL RC)) : FnOk P w K mg base CX0 5 f fd ["rule"] (spReach RC) := by
  refine D.F.ok sc_reachable (fun vs H Q E h => ?_) (fun cdv A outer s H vs Q E hr h => ?_)
  · obtain ⟨_, _, _, rfl, _⟩ := h
    rfl
  · obtain ⟨o, zs, es, rfl, hR, q⟩ := h
    have hu := hu_of hr
    obtain ⟨dx, la, m, ue, ho, hla, hm, hue, L, hs⟩ := id hR
    have EO := factE (n := zs.length) (by have := L.le; omega) L.pos
    have hbe : ∀ e ∈ es, belowE zs.length e := fun e he => (EO.ent e (hs.subset he)).1
    refine ⟨_, (pss_cons (ps_set (i := 1) sc_reachable.nd rfl (Or.inr rfl) (pe_dispN hr.units (pe_tup pa_nil) pe_bl))
      (pss_cons (ps_set (i := 2) sc_reachable.nd rfl (Or.inl rfl) (pe_lst (pa_cons (pe_tup pa_nil) pa_nil)))
      (pss_cons (ps_while PassesOwn.never (pt_truth (pv 2) (by intro _; rfl)) (pss_cons (ps_set (i := 3) sc_reachable.nd rfl (Or.inr rfl) (pe_bm0 PySem.F.plainAttrs_list PySem.F.slot_list_pop PySem.F.type_list_pop mt_pop (pv 2)))
      (pss_cons (ps_setLc (i := 4) (own := [("name", 5)]) (g := (gName 5)) (tt := tYes) rfl sc_reachable.nd rfl rfl (sw_true rfl rfl rfl (by decide +kernel)) (pi_list (pe_op op_cat (pe_getO GT_Rule G_Rule_getitem b_Rule_getitem (hr.mono (by decide)) pass0 (pv 0) (pv 3)) (pe_callTy call_list_of (by rfl) T.b_list (by decide +kernel) (pa_cons (pv 3) pa_nil)))) (blkOk_by (N := ["rule", "found", "waiting", "held", "goals", "name", "goal"]) (sc := defScope s_reachable) (by decide +kernel)) (fun _ _ _ _ _ => (pg_name (i := 5) sc_reachable.nd rfl (Or.inl rfl))) (fun _ _ _ _ _ => pts_nil) (fun _ _ _ _ _ => (pe_call G_held_after (hr.mono (by decide)) rfl D_held_after.g D_held_after.F.kp D_held_after.b .nil pass0 (pa_cons (pv 3) (pa_cons (pv 5) (pa_cons (pe_meth0 (pv 0) RR.cl ME_Rule_locks G_Rule_locks (hr.mono (by decide)) bM_Rule_locks .nil pass0) pa_nil))))))
      (pss_cons (ps_expr (pe_bm PySem.F.plainAttrs_list PySem.F.slot_list_extend PySem.F.type_list_extend mt_extend (pv 2) (pa_cons (pe_lc (own := [("goal", 6)]) (g := (gName 6)) rfl sc_reachable.nd (pi_list (pv 4)) (blkOk_by (N := ["rule", "found", "waiting", "held", "goals", "name", "goal"]) (sc := defScope s_reachable) (by decide +kernel)) (fun _ _ _ _ _ => (pg_name (i := 6) sc_reachable.nd rfl (Or.inl rfl))) (fun _ _ _ _ _ => (pts_one (pt_cmp (pc_nnotin hr.units (pv 6) (pv 1) : PC _ _ _ _ (tNNotIn P w _ _))))) (fun _ _ _ _ _ => (pv 6))) pa_nil)))
      (pss_one (ps_for PassesOwn.never rfl (pi_list (pv 4)) (pg_name (i := 6) sc_reachable.nd rfl (Or.inl rfl)) (pss_one (ps_nput hr.units (pv 1) (pv 6) pe_bl rfl))))))))
      (pss_one (ps_ret (pe_lc (own := [("held", 3)]) (g := (gName 3)) rfl sc_reachable.nd (pi_list (pe_call G_all_held (hr.mono (by decide)) rfl D_all_held.g D_all_held.F.kp D_all_held.b .nil pass0 (pa_cons (pe_meth0 (pv 0) RR.cl ME_Rule_locks G_Rule_locks (hr.mono (by decide)) bM_Rule_locks .nil pass0) pa_nil))) (blkOk_by (N := ["rule", "found", "waiting", "held", "goals", "name", "goal"]) (sc := defScope s_reachable) (by decide +kernel)) (fun _ _ _ _ _ => (pg_name (i := 3) sc_reachable.nd rfl (Or.inl rfl))) (fun _ _ _ _ _ => (pts_one (pt_cmp (pc_nin hr.units (pv 3) (pv 1) : PC _ _ _ _ (tNIn P w _ _))))) (fun _ _ _ _ _ => (pv 3)))))))), ?_⟩
    try simp (maxSteps := 1000000) only [tSeq, tIfS, tTest, tOp, tUn, tCB, tCons, tNil, tVar, tC, rI0, rI, rU, rEq, rNe, tRet, tRetN, tAsg, gName, gSub, tBM, tBM0, tNext, tB, tNot, tAnd, tOr, tIf, tCall, tDrop, tBreak, tCont, L2.start, tDGet, sDPut, tTup, tLst, tDNewK, tRevL, rCat, rAppend, rPop, rSetL, tAndV, tOrV, tNotV, tSl, tPart, tNoPart, tM1, gTup, gCons, gNil, cxK, cxnK, List.map_cons, List.map_nil, List.length_cons, List.length_nil, List.replicate, List.cons_append, List.nil_append, List.append_nil, List.set_cons_zero, List.set_cons_succ, List.getElem?_cons_zero, List.getElem?_cons_succ, Option.some.injEq, V.ref.injEq, V.int.injEq, V.str.injEq, V.bl.injEq, V.ty.injEq, exists_eq_left', exists_eq_left, exists_and_left, List.cons.injEq, and_true, true_and, sc_ii, sc_ss, sc_bb, sc_ni, sc_in, sc_is, sc_si, sc_nn, decide_true, decide_false, reduceCtorEq, Bool.false_eq_true, if_true, if_false, ite_true, ite_false, exists_const, eq_self, false_and, and_false, or_false, false_or, exists_false, Evl.rLenS, rSum, wipe, tYes, exists_eq, exists_eq', rIxL, rIxT, rIxS, exists_and_right, gt_iff_lt, not_true_eq_false, not_false_eq_true, Bool.not_true, Bool.not_false, decide_eq_true_eq, Nat.reduceSub, Nat.reduceAdd, List.append_assoc, tChain, tDIn, tDNotIn, sDDel, tAug, ipI, rInt1_int, rInt1_bl, tDispN, tNNotIn, tNIn, sNPut]
    intro fd0 nfd
    refine ⟨Nat.zero_le _, fun e0 ne0 => ?_⟩
    have k0 := (Kp.new nfd : Kp [] H (upd H fd0 (.dK [])))
    have k1 := k0.trans (Kp.new ne0 (o := .tup []))
    have hf1 : (upd (upd H fd0 (.dK [])) e0 (.tup [])) fd0 = some (.dK []) := (Kp.new ne0 (S := []) (o := .tup [])) _ _ not0 upd_same
    have he1 : HT zs (upd (upd H fd0 (.dK [])) e0 (.tup [])) (.ref e0) [] := HT.of upd_same
    generalize upd (upd H fd0 (.dK [])) e0 (.tup []) = H1 at k1 hf1 he1 ⊢
    refine ⟨hf1, _, he1.key, fun ob hob => ⟨Nat.zero_le _, fun e2 ne2 => ⟨by rw [sizeLine_eq]; decide, fun wl nwl => ?_⟩⟩⟩
    have k2 := k1.wr (o := ob) nfd
    have k3 := (k2.trans (Kp.new ne2 (o := .tup []))).trans (Kp.new nwl (o := .lst [.ref e2]))
    have k23 := (Kp.new ne2 (S := []) (o := .tup [])).trans (Kp.new nwl (o := .lst [.ref e2]))
    have hd3 := dn_kp hob k23
    have hw3 : (upd (upd (upd H1 fd0 ob) e2 (.tup [])) wl (.lst [.ref e2])) wl = some (.lst [.ref e2]) := upd_same
    have he3 : HT zs (upd (upd (upd H1 fd0 ob) e2 (.tup [])) wl (.lst [.ref e2])) (.ref e2) [] := HT.of ((Kp.new nwl (S := []) (o := .lst [.ref e2])) _ _ not0 upd_same)
    have nwl0 : H wl = none := (k2.trans (Kp.new ne2 (o := .tup []))).free0 nwl
    generalize upd (upd (upd H1 fd0 ob) e2 (.tup [])) wl (.lst [.ref e2]) = H3 at k3 hd3 hw3 he3 ⊢
    refine ⟨WRch P w zs es o fd0 wl H, ⟨29, [[]], [[]], _, _, _, _, _, _, rfl, hd3, rfl, hw3, .cons he3 .nil, by simp, fun x hx => by rw [List.mem_singleton.mp hx]; exact ⟨EO.nil, .zero⟩, List.mem_singleton.mpr rfl, fun x hx => hx, fun x hx => .inl hx, k3, rfl, by decide⟩, ?_⟩
    rintro k σ H4 ⟨F, W, us, kvs, c3, c4, c5, c6, rfl, hd4, hk4, hw4, hus4, ndF, okF, nilF, subW, clo, k4, rfl, le33⟩
    have hls8 : (hls zs.length).length ≤ 8 := by
      have := (factH (n := zs.length) (by have := L.le; omega) L.pos (i := 8) (by decide)).1
      exact this
    have F8 : F.length ≤ 8 := Nat.le_trans (nodup_lenP ndF fun x hx => (okF x hx).1) hls8
    have keyF : ∀ h, h ∈ hls zs.length → (decide (keyH zs h ∈ kvs.map (·.1)) = decide (h ∈ F)) := fun h hh => by
      rw [Bool.eq_iff_iff, decide_eq_true_eq, decide_eq_true_eq, hk4, List.mem_map]
      constructor
      · rintro ⟨y, hy, e⟩
        rw [← keyH_inj L (EO.hld y (okF y hy).1).1 (EO.hld h hh).1 e]
        exact hy
      · exact fun hm => ⟨h, hm, rfl⟩
    try simp (maxSteps := 1000000) only [tSeq, tIfS, tTest, tOp, tUn, tCB, tCons, tNil, tVar, tC, rI0, rI, rU, rEq, rNe, tRet, tRetN, tAsg, gName, gSub, tBM, tBM0, tNext, tB, tNot, tAnd, tOr, tIf, tCall, tDrop, tBreak, tCont, L2.start, tDGet, sDPut, tTup, tLst, tDNewK, tRevL, rCat, rAppend, rPop, rSetL, tAndV, tOrV, tNotV, tSl, tPart, tNoPart, tM1, gTup, gCons, gNil, cxK, cxnK, List.map_cons, List.map_nil, List.length_cons, List.length_nil, List.replicate, List.cons_append, List.nil_append, List.append_nil, List.set_cons_zero, List.set_cons_succ, List.getElem?_cons_zero, List.getElem?_cons_succ, Option.some.injEq, V.ref.injEq, V.int.injEq, V.str.injEq, V.bl.injEq, V.ty.injEq, exists_eq_left', exists_eq_left, exists_and_left, List.cons.injEq, and_true, true_and, sc_ii, sc_ss, sc_bb, sc_ni, sc_in, sc_is, sc_si, sc_nn, decide_true, decide_false, reduceCtorEq, Bool.false_eq_true, if_true, if_false, ite_true, ite_false, exists_const, eq_self, false_and, and_false, or_false, false_or, exists_false, Evl.rLenS, rSum, wipe, tYes, exists_eq, exists_eq', rIxL, rIxT, rIxS, exists_and_right, gt_iff_lt, not_true_eq_false, not_false_eq_true, Bool.not_true, Bool.not_false, decide_eq_true_eq, Nat.reduceSub, Nat.reduceAdd, List.append_assoc, tChain, tDIn, tDNotIn, sDDel, tAug, ipI, rInt1_int, rInt1_bl, tDispN, tNNotIn, tNIn, sNPut, tMeth]
    have hR4 := hR.kp k4
    have ho4 := k4 _ _ not0 ho
    by_cases wn : W = []
    · subst wn
      have clF : ∀ h, RchR zs.length es h → h ∈ F := fun h hr => by
        induction hr with
        | zero => exact nilF
        | step a m ih =>
          rcases clo _ ih with h0 | h0
          · cases h0
          · exact h0 _ m
      have eu := hus4.isNil
      subst eu
      refine ⟨false, .inl ⟨_, sq_l hw4, rfl⟩, ?_⟩
      rw [if_neg (by decide)]
      refine lc_src ?_
      try simp (maxSteps := 1000000) only [tSeq, tIfS, tTest, tOp, tUn, tCB, tCons, tNil, tVar, tC, rI0, rI, rU, rEq, rNe, tRet, tRetN, tAsg, gName, gSub, tBM, tBM0, tNext, tB, tNot, tAnd, tOr, tIf, tCall, tDrop, tBreak, tCont, L2.start, tDGet, sDPut, tTup, tLst, tDNewK, tRevL, rCat, rAppend, rPop, rSetL, tAndV, tOrV, tNotV, tSl, tPart, tNoPart, tM1, gTup, gCons, gNil, cxK, cxnK, List.map_cons, List.map_nil, List.length_cons, List.length_nil, List.replicate, List.cons_append, List.nil_append, List.append_nil, List.set_cons_zero, List.set_cons_succ, List.getElem?_cons_zero, List.getElem?_cons_succ, Option.some.injEq, V.ref.injEq, V.int.injEq, V.str.injEq, V.bl.injEq, V.ty.injEq, exists_eq_left', exists_eq_left, exists_and_left, List.cons.injEq, and_true, true_and, sc_ii, sc_ss, sc_bb, sc_ni, sc_in, sc_is, sc_si, sc_nn, decide_true, decide_false, reduceCtorEq, Bool.false_eq_true, if_true, if_false, ite_true, ite_false, exists_const, eq_self, false_and, and_false, or_false, false_or, exists_false, Evl.rLenS, rSum, wipe, tYes, exists_eq, exists_eq', rIxL, rIxT, rIxS, exists_and_right, gt_iff_lt, not_true_eq_false, not_false_eq_true, Bool.not_true, Bool.not_false, decide_eq_true_eq, Nat.reduceSub, Nat.reduceAdd, List.append_assoc, tChain, tDIn, tDNotIn, sDDel, tAug, ipI, rInt1_int, rInt1_bl, tMeth, tNIn]
      refine ⟨dx, _, ho4, rfl, o, zs, es, rfl, hR4, fun l5 H5 nl5 hl5 k5 => ?_⟩
      refine ⟨l5, zs, rfl, L, .inl (sq_l hl5), fun l6 us6 H6 nl6 hl6 hus6 k6 => ?_⟩
      have k46 := k5.trans k6
      have hd6 := dn_kp hd4 k46
      refine lcG (R := HT zs) (R2 := HT zs) (fun _ _ _ _ t h => h.tp t) (fun _ _ _ _ t h => h.tp t) (rchB zs.length es) id (src_list (fun R q' => q') (sq_l hl6)) hus6 (by omega) (fun v h H7 N N0 hh hv k7 hN hN0 => ?_) fun D us' H7 nD hD hrw k7 => ?_
      · refine ⟨by simp [wipe], ?_⟩
        try simp (maxSteps := 1000000) only [tSeq, tIfS, tTest, tOp, tUn, tCB, tCons, tNil, tVar, tC, rI0, rI, rU, rEq, rNe, tRet, tRetN, tAsg, gName, gSub, tBM, tBM0, tNext, tB, tNot, tAnd, tOr, tIf, tCall, tDrop, tBreak, tCont, L2.start, tDGet, sDPut, tTup, tLst, tDNewK, tRevL, rCat, rAppend, rPop, rSetL, tAndV, tOrV, tNotV, tSl, tPart, tNoPart, tM1, gTup, gCons, gNil, cxK, cxnK, List.map_cons, List.map_nil, List.length_cons, List.length_nil, List.replicate, List.cons_append, List.nil_append, List.append_nil, List.set_cons_zero, List.set_cons_succ, List.getElem?_cons_zero, List.getElem?_cons_succ, Option.some.injEq, V.ref.injEq, V.int.injEq, V.str.injEq, V.bl.injEq, V.ty.injEq, exists_eq_left', exists_eq_left, exists_and_left, List.cons.injEq, and_true, true_and, sc_ii, sc_ss, sc_bb, sc_ni, sc_in, sc_is, sc_si, sc_nn, decide_true, decide_false, reduceCtorEq, Bool.false_eq_true, if_true, if_false, ite_true, ite_false, exists_const, eq_self, false_and, and_false, or_false, false_or, exists_false, Evl.rLenS, rSum, wipe, tYes, exists_eq, exists_eq', rIxL, rIxT, rIxS, exists_and_right, gt_iff_lt, not_true_eq_false, not_false_eq_true, Bool.not_true, Bool.not_false, decide_eq_true_eq, Nat.reduceSub, Nat.reduceAdd, List.append_assoc, tChain, tDIn, tDNotIn, sDDel, tAug, ipI, rInt1_int, rInt1_bl, tNIn]
        refine ⟨kvs, dn_kp hd6 k7, _, hv.key, ?_⟩
        rw [valN_isK, keyF h hh]
        have e : decide (h ∈ F) = rchB zs.length es h := by
          rw [Bool.eq_iff_iff, decide_eq_true_eq, rchB_iff]
          constructor
          · exact fun hm => (okF h hm).2
          · exact fun hr => clF h hr
        rw [e]
        cases eb : rchB zs.length es h with
        | true =>
          rw [if_pos rfl]
          exact hN eb _ _ hv (Kp.refl _ _)
        | false =>
          rw [if_neg (by decide)]
          exact hN0 eb _ (Kp.refl _ _)
      · rw [List.map_id] at hrw
        exact q D us' H7 ((k4.trans k46).free0 nD) hD hrw ((k4.trans k46).trans k7)
    · obtain ⟨Wi, h, rfl⟩ : ∃ Wi h, W = Wi ++ [h] := ⟨W.dropLast, W.getLast wn, (List.dropLast_concat_getLast wn).symm⟩
      obtain ⟨ui, u, rfl, hui, hu4⟩ := hus4.last
      refine ⟨true, .inl ⟨_, sq_l hw4, by simp⟩, ?_⟩
      rw [if_pos rfl]
      have hF : h ∈ F := subW h (by simp)
      obtain ⟨hh, hrh⟩ := okF h hF
      obtain ⟨hb, h3, haft⟩ := EO.hld h hh
      refine ⟨fun σ' H' => ∃ m', m' < 4 * (8 - F.length) + (Wi ++ [h]).length ∧ WRch P w zs es o fd0 wl H m' σ' H', fun _ _ h => h, .inl ⟨rfl, _, sq_l hw4⟩, _, hw4, u, by rw [List.length_append, List.length_singleton, Nat.add_sub_cancel, List.getElem?_append_right (Nat.le_refl _), Nat.sub_self]; rfl, ?_⟩
      rw [List.dropLast_concat]
      have k5 : Kp [] H (upd H4 wl (.lst ui)) := k4.wr nwl0
      have tp5 : Tp H4 (upd H4 wl (.lst ui)) := (Tp.refl _).putL hw4
      have hd5 := dn_wr (ws := ui) hd4 hw4 (Ne.symm (dn_nl hd4 hw4))
      have hw5 : (upd H4 wl (.lst ui)) wl = some (.lst ui) := upd_same
      have hui5 := hui.mono fun _ _ z => HT.tp z tp5
      have hu5 := hu4.tp tp5
      generalize upd H4 wl (.lst ui) = H5 at k5 hd5 hw5 hui5 hu5 ⊢
      have hR5 := hR.kp k5
      have ho5 := k5 _ _ not0 ho
      refine lc_src ?_
      try simp (maxSteps := 1000000) only [tSeq, tIfS, tTest, tOp, tUn, tCB, tCons, tNil, tVar, tC, rI0, rI, rU, rEq, rNe, tRet, tRetN, tAsg, gName, gSub, tBM, tBM0, tNext, tB, tNot, tAnd, tOr, tIf, tCall, tDrop, tBreak, tCont, L2.start, tDGet, sDPut, tTup, tLst, tDNewK, tRevL, rCat, rAppend, rPop, rSetL, tAndV, tOrV, tNotV, tSl, tPart, tNoPart, tM1, gTup, gCons, gNil, cxK, cxnK, List.map_cons, List.map_nil, List.length_cons, List.length_nil, List.replicate, List.cons_append, List.nil_append, List.append_nil, List.set_cons_zero, List.set_cons_succ, List.getElem?_cons_zero, List.getElem?_cons_succ, Option.some.injEq, V.ref.injEq, V.int.injEq, V.str.injEq, V.bl.injEq, V.ty.injEq, exists_eq_left', exists_eq_left, exists_and_left, List.cons.injEq, and_true, true_and, sc_ii, sc_ss, sc_bb, sc_ni, sc_in, sc_is, sc_si, sc_nn, decide_true, decide_false, reduceCtorEq, Bool.false_eq_true, if_true, if_false, ite_true, ite_false, exists_const, eq_self, false_and, and_false, or_false, false_or, exists_false, Evl.rLenS, rSum, wipe, tYes, exists_eq, exists_eq', rIxL, rIxT, rIxS, exists_and_right, gt_iff_lt, not_true_eq_false, not_false_eq_true, Bool.not_true, Bool.not_false, decide_eq_true_eq, Nat.reduceSub, Nat.reduceAdd, List.append_assoc, tChain, tDIn, tDNotIn, sDDel, tAug, ipI, rInt1_int, rInt1_bl, rGetO]
      have hml := may_len3 (by have := L.le; omega) L.pos hs hh
      have hrs : ∀ r ∈ mayR es h ++ h, r < zs.length := fun r hr => by
        rcases List.mem_append.mp hr with hr | hr
        · exact may_lt hbe r hr
        · exact hb r hr
      obtain ⟨ua, rfl, hua⟩ := id hu5
      refine ⟨⟨dx, _, ho5⟩, o, _, zs, es, h, rfl, hR5, hu5, hh, fun l6 H6 nl6 hl6 k6 => ?_⟩
      refine ⟨ua, rfl, _, .inr (sq_t (k6 _ _ not0 hua)), fun l7 nl7 => ?_⟩
      have k7 := k6.trans (Kp.new nl7 (o := .lst ((nmH zs h).map V.str)))
      have hl67 := (Kp.new nl7 (S := []) (o := .lst ((nmH zs h).map V.str))) _ _ not0 hl6
      refine ⟨l6, rfl, _, hl67, _, upd_same, by rw [List.length_map, List.length_map, nmH_len, nmH_len]; exact small (by omega), fun l8 nl8 => ?_⟩
      have k8 := k7.trans (Kp.new nl8 (o := .lst ((nmH zs (mayR es h)).map V.str ++ (nmH zs h).map V.str)))
      have h8 : (upd (upd H6 l7 (.lst ((nmH zs h).map V.str))) l8 (.lst ((nmH zs (mayR es h)).map V.str ++ (nmH zs h).map V.str))) l8 = some (.lst ((nmH zs (mayR es h ++ h)).map V.str)) := by
        rw [upd_same]
        unfold nmH
        rw [List.map_append, List.map_append]
      generalize upd (upd H6 l7 (.lst ((nmH zs h).map V.str))) l8 (.lst ((nmH zs (mayR es h)).map V.str ++ (nmH zs h).map V.str)) = H8 at k8 h8 ⊢
      refine lcG (R := fun _ v x => v = V.str (nmL zs x)) (R2 := HT zs) (fun _ _ _ _ _ h => h) (fun _ _ _ _ t h => h.tp t) (fun _ => true) (fun r => aftR zs.length r h) (src_list (fun R q' => q') (sq_l h8)) ht_rw (by rw [List.length_append]; omega) (fun v r H9 N N0 hr hv k9 hN hN0 => ?_) fun D9 us9 H9 nD9 hD9 hrw9 k9 => ?_
      · subst hv
        have k59 := k8.trans k9
        refine ⟨by simp [wipe], ?_⟩
        try simp (maxSteps := 1000000) only [tSeq, tIfS, tTest, tOp, tUn, tCB, tCons, tNil, tVar, tC, rI0, rI, rU, rEq, rNe, tRet, tRetN, tAsg, gName, gSub, tBM, tBM0, tNext, tB, tNot, tAnd, tOr, tIf, tCall, tDrop, tBreak, tCont, L2.start, tDGet, sDPut, tTup, tLst, tDNewK, tRevL, rCat, rAppend, rPop, rSetL, tAndV, tOrV, tNotV, tSl, tPart, tNoPart, tM1, gTup, gCons, gNil, cxK, cxnK, List.map_cons, List.map_nil, List.length_cons, List.length_nil, List.replicate, List.cons_append, List.nil_append, List.append_nil, List.set_cons_zero, List.set_cons_succ, List.getElem?_cons_zero, List.getElem?_cons_succ, Option.some.injEq, V.ref.injEq, V.int.injEq, V.str.injEq, V.bl.injEq, V.ty.injEq, exists_eq_left', exists_eq_left, exists_and_left, List.cons.injEq, and_true, true_and, sc_ii, sc_ss, sc_bb, sc_ni, sc_in, sc_is, sc_si, sc_nn, decide_true, decide_false, reduceCtorEq, Bool.false_eq_true, if_true, if_false, ite_true, ite_false, exists_const, eq_self, false_and, and_false, or_false, false_or, exists_false, Evl.rLenS, rSum, wipe, tYes, exists_eq, exists_eq', rIxL, rIxT, rIxS, exists_and_right, gt_iff_lt, not_true_eq_false, not_false_eq_true, Bool.not_true, Bool.not_false, decide_eq_true_eq, Nat.reduceSub, Nat.reduceAdd, List.append_assoc, tChain, tDIn, tDNotIn, sDDel, tAug, ipI, rInt1_int, rInt1_bl, tMeth]
        refine ⟨dx, _, k59 _ _ not0 ho5, rfl, o, zs, es, rfl, hR5.kp k59, fun l10 H10 nl10 hl10 k10 => ?_⟩
        exact ⟨.ref ua, l10, zs, r, h, rfl, L, hrs r hr, (hu5.tp k59.tps).tp k10.tps, hb, by omega, .inl (sq_l hl10), fun v' H11 hv' k11 => hN rfl _ _ hv' (k10.trans k11)⟩
      · have hgl : ((mayR es h ++ h).filter fun _ => true).map (fun r => aftR zs.length r h) = nxtR zs.length es h := by
          rw [List.filter_eq_self.mpr (fun _ _ => rfl)]
          rfl
        rw [hgl] at hrw9
        have gl : (nxtR zs.length es h).length ≤ 3 := by
          unfold nxtR
          rw [List.length_map, List.length_append]
          exact hml
        have ghl : ∀ g ∈ nxtR zs.length es h, g ∈ hls zs.length ∧ RchR zs.length es g := fun g hg => by
          refine ⟨?_, .step hrh hg⟩
          unfold nxtR at hg
          obtain ⟨r, hr, rfl⟩ := List.mem_map.mp hg
          exact haft r (hrs r hr)
        obtain ⟨gs, egs⟩ : ∃ gs, gs = nxtR zs.length es h := ⟨_, rfl⟩
        have GSH : ∀ g ∈ nxtR zs.length es h, g ∈ gs := fun g hg => egs ▸ hg
        rw [← egs] at hrw9 gl ghl
        have k59 := k8.trans k9
        have k09 := k5.trans k59
        have hw9 := k59 _ _ not0 hw5
        have hd9 := dn_kp hd5 k59
        have hui9 := hui5.mono fun _ _ z => HT.tp z k59.tps
        refine ⟨.inl ⟨rfl, _, sq_l hw9⟩, ?_⟩
        refine lcG (R := HT zs) (R2 := HT zs) (fun _ _ _ _ t h => h.tp t) (fun _ _ _ _ t h => h.tp t) (fun g => !decide (g ∈ F)) id (src_list (fun R q' => ⟨_, rfl, q'⟩) (sq_l hD9)) hrw9 (by omega) (fun v g H10 N N0 hg hv k10 hN hN0 => ?_) fun D10 us10 H10 nD10 hD10 hrw10 k10 => ?_
        · refine ⟨by simp [wipe], ?_⟩
          try simp (maxSteps := 1000000) only [tSeq, tIfS, tTest, tOp, tUn, tCB, tCons, tNil, tVar, tC, rI0, rI, rU, rEq, rNe, tRet, tRetN, tAsg, gName, gSub, tBM, tBM0, tNext, tB, tNot, tAnd, tOr, tIf, tCall, tDrop, tBreak, tCont, L2.start, tDGet, sDPut, tTup, tLst, tDNewK, tRevL, rCat, rAppend, rPop, rSetL, tAndV, tOrV, tNotV, tSl, tPart, tNoPart, tM1, gTup, gCons, gNil, cxK, cxnK, List.map_cons, List.map_nil, List.length_cons, List.length_nil, List.replicate, List.cons_append, List.nil_append, List.append_nil, List.set_cons_zero, List.set_cons_succ, List.getElem?_cons_zero, List.getElem?_cons_succ, Option.some.injEq, V.ref.injEq, V.int.injEq, V.str.injEq, V.bl.injEq, V.ty.injEq, exists_eq_left', exists_eq_left, exists_and_left, List.cons.injEq, and_true, true_and, sc_ii, sc_ss, sc_bb, sc_ni, sc_in, sc_is, sc_si, sc_nn, decide_true, decide_false, reduceCtorEq, Bool.false_eq_true, if_true, if_false, ite_true, ite_false, exists_const, eq_self, false_and, and_false, or_false, false_or, exists_false, Evl.rLenS, rSum, wipe, tYes, exists_eq, exists_eq', rIxL, rIxT, rIxS, exists_and_right, gt_iff_lt, not_true_eq_false, not_false_eq_true, Bool.not_true, Bool.not_false, decide_eq_true_eq, Nat.reduceSub, Nat.reduceAdd, List.append_assoc, tChain, tDIn, tDNotIn, sDDel, tAug, ipI, rInt1_int, rInt1_bl, tNNotIn]
          refine ⟨kvs, dn_kp hd9 k10, _, hv.key, ?_⟩
          rw [valN_isK, keyF g (ghl g hg).1]
          by_cases e : g ∈ F
          · rw [decide_eq_true e, if_neg (by decide)]
            exact hN0 (by simp [e]) _ (Kp.refl _ _)
          · rw [decide_eq_false e, if_pos (by decide)]
            exact hN (by simp [e]) _ _ hv (Kp.refl _ _)
        · rw [List.map_id] at hrw10
          have hw10 := k10 _ _ not0 hw9
          have hd10 := dn_kp hd9 k10
          have fl3 : (gs.filter fun g => !decide (g ∈ F)).length ≤ 3 := Nat.le_trans (List.length_filter_le _ _) gl
          have Wl : Wi.length ≤ 33 := by
            rw [List.length_append] at le33
            omega
          refine ⟨wl, D10, ui, us10, rfl, rfl, hw10, hD10, small (by rw [hui.len, hrw10.len]; omega), ?_⟩
          have kw : Kp [] H (upd H10 wl (.lst (ui ++ us10))) := (k09.trans k10).wr nwl0
          have tpw : Tp H10 (upd H10 wl (.lst (ui ++ us10))) := (Tp.refl _).putL hw10
          have hdw := dn_wr (ws := ui ++ us10) hd10 hw10 (Ne.symm (dn_nl hd10 hw10))
          have hww : (upd H10 wl (.lst (ui ++ us10))) wl = some (.lst (ui ++ us10)) := upd_same
          have D9w : D9 ≠ wl := fun z => by
            rw [z, k8 _ _ not0 hw5] at nD9
            cases nD9
          have hD9w : (upd H10 wl (.lst (ui ++ us10))) D9 = some (.lst us9) := by rw [upd_ne D9w]; exact k10 _ _ not0 hD9
          have hrw9w : Rw (HT zs (upd H10 wl (.lst (ui ++ us10)))) us9 gs := hrw9.mono fun _ _ z => (HT.tp z k10.tps).tp tpw
          have hWw : Rw (HT zs (upd H10 wl (.lst (ui ++ us10)))) (ui ++ us10) (Wi ++ gs.filter fun g => !decide (g ∈ F)) := (hui9.mono fun _ _ z => (HT.tp z k10.tps).tp tpw).app (hrw10.mono fun _ _ z => HT.tp z tpw)
          generalize upd H10 wl (.lst (ui ++ us10)) = H11 at kw hdw hww hD9w hrw9w hWw ⊢
          have clear1 := hk4
          refine ⟨.ref D9, rfl, D9, rfl, ⟨_, sq_l hD9w⟩, for_list (K := K) (a := D9) (xs := us9) (fun j σ H' => ∃ (kv : List (NestedKey × V)) (c6 : Option V), σ = [some (.ref o), some (.ref fd0), some (.ref wl), some (.ref ua), some (.ref D9), c5, c6] ∧ DnAt P w H' fd0 kv ∧ kv.map (·.1) = (addF F (gs.take j)).map (keyH zs) ∧ H' wl = some (.lst (ui ++ us10)) ∧ H' D9 = some (.lst us9) ∧ Tp H11 H' ∧ Kp [] H H') ⟨_, _, rfl, hdw, hk4, hww, hD9w, Tp.refl _, kw⟩ (fun j σ H' _ h => by obtain ⟨_, _, _, _, _, _, a, _⟩ := h; exact sq_l a) ?_ ?_⟩
          · rintro j x σ H12 hx ⟨kv, c6, rfl, hd12, hk12, hw12, hD12, t12, k12⟩
            obtain ⟨g, eg, hg⟩ := hrw9w.get hx
            have gm := List.mem_of_getElem? eg
            have hg12 := hg.tp t12
            try simp (maxSteps := 1000000) only [tSeq, tIfS, tTest, tOp, tUn, tCB, tCons, tNil, tVar, tC, rI0, rI, rU, rEq, rNe, tRet, tRetN, tAsg, gName, gSub, tBM, tBM0, tNext, tB, tNot, tAnd, tOr, tIf, tCall, tDrop, tBreak, tCont, L2.start, tDGet, sDPut, tTup, tLst, tDNewK, tRevL, rCat, rAppend, rPop, rSetL, tAndV, tOrV, tNotV, tSl, tPart, tNoPart, tM1, gTup, gCons, gNil, cxK, cxnK, List.map_cons, List.map_nil, List.length_cons, List.length_nil, List.replicate, List.cons_append, List.nil_append, List.append_nil, List.set_cons_zero, List.set_cons_succ, List.getElem?_cons_zero, List.getElem?_cons_succ, Option.some.injEq, V.ref.injEq, V.int.injEq, V.str.injEq, V.bl.injEq, V.ty.injEq, exists_eq_left', exists_eq_left, exists_and_left, List.cons.injEq, and_true, true_and, sc_ii, sc_ss, sc_bb, sc_ni, sc_in, sc_is, sc_si, sc_nn, decide_true, decide_false, reduceCtorEq, Bool.false_eq_true, if_true, if_false, ite_true, ite_false, exists_const, eq_self, false_and, and_false, or_false, false_or, exists_false, Evl.rLenS, rSum, wipe, tYes, exists_eq, exists_eq', rIxL, rIxT, rIxS, exists_and_right, gt_iff_lt, not_true_eq_false, not_false_eq_true, Bool.not_true, Bool.not_false, decide_eq_true_eq, Nat.reduceSub, Nat.reduceAdd, List.append_assoc, tChain, tDIn, tDNotIn, sDDel, tAug, ipI, rInt1_int, rInt1_bl, sNPut]
            have kl : kv.length ≤ 8 := by
              have e := congrArg List.length hk12
              rw [List.length_map, List.length_map] at e
              rw [e]
              refine Nat.le_trans (nodup_lenP (addF_nd ndF) fun x hx => ?_) hls8
              rcases addF_mem.mp hx with hx | hx
              · exact (okF x hx).1
              · exact (ghl x (List.mem_of_mem_take hx)).1
            refine ⟨kv, hd12, _, hg12.key, smallL (by omega), fun ob hob => ?_⟩
            have keyA : (keyH zs g ∈ kv.map (·.1)) ↔ g ∈ addF F (gs.take j) := by
              rw [hk12, List.mem_map]
              constructor
              · rintro ⟨y, hy, e⟩
                have hy8 : y ∈ hls zs.length := by
                  rcases addF_mem.mp hy with hy | hy
                  · exact (okF y hy).1
                  · exact (ghl y (List.mem_of_mem_take hy)).1
                rw [← keyH_inj L (EO.hld y hy8).1 (EO.hld g (ghl g gm).1).1 e]
                exact hy
              · exact fun hm => ⟨g, hm, rfl⟩
            refine ⟨_, hob, ?_, by rw [upd_ne (dn_nl hd12 hw12)]; exact hw12, by rw [upd_ne (dn_nl hd12 hD12)]; exact hD12, fun b xs e => by rw [upd_ne (dn_nt hd12 (t12 _ _ e))]; exact t12 _ _ e, k12.wr nfd⟩
            rw [putN_keys, take_snoc eg, addF_snoc]
            by_cases hm : g ∈ addF F (gs.take j)
            · rw [if_pos (keyA.mpr hm), if_pos hm]
              exact hk12
            · rw [if_neg (fun z => hm (keyA.mp z)), if_neg hm, hk12, List.map_append]
              rfl
          · rintro σ H12 ⟨kv, c6, rfl, hd12, hk12, hw12, hD12, t12, k12⟩
            rw [hrw9w.len, List.take_length] at hk12
            have F'8 : (addF F gs).length ≤ 8 := by
              refine Nat.le_trans (nodup_lenP (addF_nd ndF) fun x hx => ?_) hls8
              rcases addF_mem.mp hx with hx | hx
              · exact (okF x hx).1
              · exact (ghl x hx).1
            have meas : 4 * (8 - (addF F gs).length) + (Wi ++ gs.filter fun g => !decide (g ∈ F)).length < 4 * (8 - F.length) + (Wi ++ [h]).length := by
              rw [List.length_append, List.length_append, List.length_singleton]
              have a1 := addF_len (gs := gs) ndF
              by_cases hz : (gs.filter fun g => !decide (g ∈ F)).length = 0
              · omega
              · obtain ⟨g, hg⟩ := List.exists_mem_of_length_pos (Nat.pos_of_ne_zero hz)
                have hg' := List.mem_filter.mp hg
                have := addF_lt ndF hg'.1 (by simpa using hg'.2)
                omega
            refine ⟨_, meas, addF F gs, _, _, kv, _, _, _, _, rfl, hd12, hk12, hw12, hWw.mono fun _ _ z => HT.tp z t12, addF_nd ndF, fun x hx => ?_, addF_mem.mpr (.inl nilF), fun x hx => ?_, fun x hx => ?_, k12, rfl, by omega⟩
            · rcases addF_mem.mp hx with hx | hx
              · exact okF x hx
              · exact ghl x hx
            · rcases List.mem_append.mp hx with hx | hx
              · exact addF_mem.mpr (.inl (subW x (List.mem_append_left _ hx)))
              · exact addF_mem.mpr (.inr (List.mem_filter.mp hx).1)
            · by_cases xF : x ∈ F
              · rcases clo x xF with hx | hx
                · rcases List.mem_append.mp hx with hx | hx
                  · exact .inl (List.mem_append_left _ hx)
                  · rw [List.mem_singleton.mp hx]
                    exact .inr fun g hg => addF_mem.mpr (.inr (GSH g hg))
                · exact .inr fun g hg => addF_mem.mpr (.inl (hx g hg))
              · rcases addF_mem.mp hx with hx | hx
                · exact absurd hx xF
                · exact .inl (List.mem_append_right _ (List.mem_filter.mpr ⟨hx, by simp [xF]⟩))
end
end My

set_option Elab.async false
set_option linter.all false
set_option maxRecDepth 100000
set_option maxHeartbeats 4000000
namespace My
open PySem L2 NdefX StX
def tx (cs : List Nat) : Str := ⟨cs.toArray⟩
theorem tx_inj {a b : List Nat} (h : tx a = tx b) : a = b := by
  have e : a.toArray = b.toArray := congrArg Str.cps h
  simpa using e
theorem tx_len (cs : List Nat) : (tx cs).length = cs.length := by
  show cs.toArray.size = _
  simp
theorem tx_list (cs : List Nat) : (tx cs).cps.toList = cs := by
  show cs.toArray.toList = cs
  simp
theorem tx_app (a b : List Nat) : tx a ++ tx b = tx (a ++ b) := by
  show (⟨a.toArray ++ b.toArray⟩ : Str) = ⟨(a ++ b).toArray⟩
  simp
theorem join_ones : ∀ cs : List Nat, Txt.join "" (cs.map fun c => tx [c]) = tx cs := by
  intro cs
  have e := SX.join_S [] (cs.map fun c => [c])
  have e2 : (cs.map fun c => [c]).map SX.S = cs.map fun c => tx [c] := by rw [List.map_map]; rfl
  rw [e2] at e
  have e3 : TL.joinL [] (cs.map fun c => [c]) = cs := by
    clear e e2
    induction cs with
    | nil => rfl
    | cons c r ih =>
      cases r with
      | nil => rfl
      | cons d r =>
        show [c] ++ ([] ++ TL.joinL [] ((d :: r).map fun c => [c])) = c :: d :: r
        rw [ih]; rfl
  rw [e3] at e
  exact e
theorem cutTo (cs : List Nat) (k : Nat) : cutS (tx cs) none (some (k : Int)) = tx (cs.take k) := by
  unfold cutS
  rw [HT.sIx_none, HT.sIx_nat, tx_list, tx_len, List.drop_zero, Nat.sub_zero]
  show tx _ = tx _
  congr 1
  rcases Nat.le_total k cs.length with h | h
  · rw [Nat.min_eq_left h]
  · rw [Nat.min_eq_right h, List.take_length, List.take_of_length_le h]
theorem cutFrom (cs : List Nat) (k : Nat) : cutS (tx cs) (some (k : Int)) none = tx (cs.drop k) := by
  unfold cutS
  rw [HT.sIx_none, HT.sIx_nat, tx_list, tx_len]
  show tx _ = tx _
  congr 1
  rcases Nat.le_total k cs.length with h | h
  · rw [Nat.min_eq_left h, List.take_of_length_le (by rw [List.length_drop]; exact Nat.le_refl _)]
  · rw [Nat.min_eq_right h, List.drop_of_length_le h, List.drop_length]; simp
def LowL (cs : List Nat) : Prop := ∀ c ∈ cs, 97 ≤ c ∧ c ≤ 122
theorem tx_name {cs : List Nat} (h : LowL cs) (h1 : 1 ≤ cs.length) (h8 : cs.length ≤ 8) : nameS (tx cs) = true := by
  unfold nameS
  rw [tx_len, tx_list, decide_eq_true h1, decide_eq_true h8, Bool.true_and, Bool.true_and, List.all_eq_true]
  intro c hc
  unfold lowC
  rw [decide_eq_true (h c hc).1, decide_eq_true (h c hc).2]; rfl
theorem ifs_both {c : TT} {t u : L2.TS} {D : Ends} {σ : L2.St} {H : Hp} (Pv : L2.St → Hp → Prop) (h : ∀ Dn : Ends, (∀ σ' H', Pv σ' H' → Dn.nx σ' H') → tIfS c t u Dn σ H) (h2 : ∀ σ' H', Pv σ' H' → D.nx σ' H') : tIfS c t u D σ H := h D h2
theorem sum_ones : ∀ cs : List Nat, ((cs.map fun c => tx [c]).map fun z => z.length).sum = cs.length
  | [] => rfl
  | c :: r => by
    show (tx [c]).length + ((r.map fun c => tx [c]).map fun z => z.length).sum = r.length + 1
    rw [sum_ones r, tx_len]
    show 1 + r.length = _
    omega
theorem lets_at : ∀ i : Nat, i < 26 → lets.cps.toList[i]? = some (97 + i) := by decide +kernel

abbrev s_law_cell : Stmt := top 27
theorem sc_law_cell : FnScope ["_law_script", "_law_k"] ["_law_script", "_law_k"] (defScope s_law_cell) := ⟨rfl, rfl, rfl, by decide +kernel, rfl, by decide +kernel, by decide +kernel⟩
abbrev s_law_mixed : Stmt := top 28
theorem sc_law_mixed : FnScope ["_law_cell_here", "_law_k", "_law_one"] ["_law_cell_here", "_law_k"] (defScope s_law_mixed) := ⟨rfl, rfl, rfl, by decide +kernel, rfl, by decide +kernel, by decide +kernel⟩
abbrev s_law_draws : Stmt := top 29
theorem sc_law_draws : FnScope ["_law_cell_here", "_law_salt", "_law_count", "_law_many", "_law_row", "_law_rest", "_law_k"] ["_law_cell_here", "_law_salt", "_law_count", "_law_many"] (defScope s_law_draws) := ⟨rfl, rfl, rfl, by decide +kernel, rfl, by decide +kernel, by decide +kernel⟩
structure BtG (mg : Str → Option Value) : Prop where
  b_len : mg "len" = none
  b_int : mg "int" = none
  b_range : mg "range" = none
  b_list : mg "list" = none
  b_sorted : mg "sorted" = none
  b_tuple : mg "tuple" = none
  b_isinstance : mg "isinstance" = none
def Scr (K : PySem.W.Frag) (H : Hp) (a : Addr) (ns : List Int) : Prop := SqL K H a (ns.map V.int) ∧ ns.length ≤ 63
/-- count numbers below many -/
def DrawN (n : Nat) (m : Int) (ds : List Int) : Prop := ds.length = n ∧ ∀ d ∈ ds, 0 ≤ d ∧ d < m
section
variable {P : Program} {w : World} {K : PySem.W.Frag} {mg : Str → Option Value} {base : Heap} {tL t3 : Tok} {RC : Addr}
def spCell (K : PySem.W.Frag) : Sp := fun vs H Q _ => ∃ (a : Addr) (k : Nat) (ns : List Int), vs = [.ref a, .int (k : Nat)] ∧ Scr K H a ns ∧ ∀ i : Int, Q (.int i) H
theorem ok_law_cell {f : Addr} {fd : FuncData} (D : Df K mg "_law_cell" s_law_cell ["_law_script", "_law_k"] f fd) (T : BtG mg) : FnOk P w K mg base CX0 1 f fd ["_law_script", "_law_k"] (spCell K) := by
  refine D.F.ok sc_law_cell (fun vs H Q E h => ?_) (fun cdv A outer s H vs Q E hr h => ?_)
  · obtain ⟨_, _, _, rfl, _⟩ := h
    rfl
  · obtain ⟨a, k, ns, rfl, hS, q⟩ := h
    refine ⟨_, (pss_cons (ps_if (pt_cmpR op_lt (pv 1) (pe_callB (id := "len") (r := Evl.rLenS K) call_len_seq (by rfl) T.b_len PySem.boot_len (pa_cons (pv 0) pa_nil)) (nomark _)) (pss_one (ps_ret (pe_ix (r := rIxL K) ix_list (pv 0) (pv 1) (fun _ _ => rfl)))) pss_nil)
      (pss_one (ps_ret pe_int))), ?_⟩
    try simp (maxSteps := 1000000) only [tSeq, tIfS, tTest, tOp, tUn, tCB, tCons, tNil, tVar, tC, rI0, rI, rU, rEq, rNe, tRet, tRetN, tAsg, gName, gSub, tBM, tBM0, tNext, tB, tNot, tAnd, tOr, tIf, tCall, tDrop, tBreak, tCont, L2.start, tDGet, sDPut, tTup, tLst, tDNewK, tRevL, rCat, rAppend, rPop, rSetL, tAndV, tOrV, tNotV, tSl, tPart, tNoPart, tM1, gTup, gCons, gNil, cxK, cxnK, List.map_cons, List.map_nil, List.length_cons, List.length_nil, List.replicate, List.cons_append, List.nil_append, List.append_nil, List.set_cons_zero, List.set_cons_succ, List.getElem?_cons_zero, List.getElem?_cons_succ, Option.some.injEq, V.ref.injEq, V.int.injEq, V.str.injEq, V.bl.injEq, V.ty.injEq, exists_eq_left', exists_eq_left, exists_and_left, List.cons.injEq, and_true, true_and, sc_ii, sc_ss, sc_bb, sc_ni, sc_in, sc_is, sc_si, sc_nn, decide_true, decide_false, reduceCtorEq, Bool.false_eq_true, if_true, if_false, ite_true, ite_false, exists_const, eq_self, false_and, and_false, or_false, false_or, exists_false, Evl.rLenS, rSum, wipe, tYes, exists_eq, exists_eq', rIxL, rIxT, rIxS, exists_and_right, gt_iff_lt, not_true_eq_false, not_false_eq_true, Bool.not_true, Bool.not_false, decide_eq_true_eq, Nat.reduceSub, Nat.reduceAdd, List.append_assoc, tChain, tDIn, tDNotIn, sDDel, tAug, ipI, rInt1_int, rInt1_bl]
    refine ⟨_, .inl hS.1, ?_⟩
    rw [List.length_map]
    by_cases h : k < ns.length
    · rw [if_pos (by omega)]
      refine ⟨_, hS.1, .int ns[k], atI_nat (by rw [List.getElem?_map, List.getElem?_eq_getElem h]; rfl), q _⟩
    · rw [if_neg (by omega)]
      exact q 0
def spMixed : Sp := fun vs H Q _ => ∃ (c k : Int), vs = [.int c, .int k] ∧ ∀ i : Int, 0 ≤ i → Q (.int i) H
theorem ok_law_mixed {f : Addr} {fd : FuncData} (D : Df K mg "_law_mixed" s_law_mixed ["_law_cell_here", "_law_k"] f fd) (T : BtG mg) : FnOk P w K mg base CX0 1 f fd ["_law_cell_here", "_law_k"] spMixed := by
  refine D.F.ok sc_law_mixed (fun vs H Q E h => ?_) (fun cdv A outer s H vs Q E hr h => ?_)
  · obtain ⟨_, _, rfl, _⟩ := h
    rfl
  · obtain ⟨c, k, rfl, q⟩ := h
    refine ⟨_, (pss_cons (ps_set (i := 2) sc_law_mixed.nd rfl (Or.inl rfl) (pe_op op_mod (pe_op op_add (pe_op op_add (pe_op op_mul (pe_callTy (T := "int") (r := rInt1) call_int1 (by rfl) T.b_int (by decide +kernel) (pa_cons (pv 0) pa_nil)) pe_int) (pe_op op_mul (pv 1) pe_int)) pe_int) pe_int))
      (pss_one (ps_ret (pe_op op_fdiv (pe_op op_mod (pe_op op_mul (pv 2) (pv 2)) pe_int) pe_int)))), ?_⟩
    try simp (maxSteps := 1000000) only [tSeq, tIfS, tTest, tOp, tUn, tCB, tCons, tNil, tVar, tC, rI0, rI, rU, rEq, rNe, tRet, tRetN, tAsg, gName, gSub, tBM, tBM0, tNext, tB, tNot, tAnd, tOr, tIf, tCall, tDrop, tBreak, tCont, L2.start, tDGet, sDPut, tTup, tLst, tDNewK, tRevL, rCat, rAppend, rPop, rSetL, tAndV, tOrV, tNotV, tSl, tPart, tNoPart, tM1, gTup, gCons, gNil, cxK, cxnK, List.map_cons, List.map_nil, List.length_cons, List.length_nil, List.replicate, List.cons_append, List.nil_append, List.append_nil, List.set_cons_zero, List.set_cons_succ, List.getElem?_cons_zero, List.getElem?_cons_succ, Option.some.injEq, V.ref.injEq, V.int.injEq, V.str.injEq, V.bl.injEq, V.ty.injEq, exists_eq_left', exists_eq_left, exists_and_left, List.cons.injEq, and_true, true_and, sc_ii, sc_ss, sc_bb, sc_ni, sc_in, sc_is, sc_si, sc_nn, decide_true, decide_false, reduceCtorEq, Bool.false_eq_true, if_true, if_false, ite_true, ite_false, exists_const, eq_self, false_and, and_false, or_false, false_or, exists_false, Evl.rLenS, rSum, wipe, tYes, exists_eq, exists_eq', rIxL, rIxT, rIxS, exists_and_right, gt_iff_lt, not_true_eq_false, not_false_eq_true, Bool.not_true, Bool.not_false, decide_eq_true_eq, Nat.reduceSub, Nat.reduceAdd, List.append_assoc, tChain, tDIn, tDNotIn, sDDel, tAug, ipI, rInt1_int, rInt1_bl]
    have m1 := Int.emod_nonneg (c * 7919 + k * 10007 + 31) (show (1000003 : Int) ≠ 0 by decide)
    have m2 := Int.emod_lt_of_pos (c * 7919 + k * 10007 + 31) (show (0 : Int) < 1000003 by decide)
    generalize (c * 7919 + k * 10007 + 31) % 1000003 = x at m1 m2 ⊢
    exact ⟨.inr ⟨by decide, by decide⟩, .inr ⟨by decide, by decide⟩, by decide, .inl ⟨by omega, by omega⟩, by decide, ⟨by decide, by decide⟩, q _ (Int.ediv_nonneg (Int.emod_nonneg _ (by decide)) (by decide))⟩
def spDraws : Sp := fun vs H Q _ => ∃ (c : Int) (salt n : Nat) (m : Int), vs = [.int c, .int (salt : Nat), .int (n : Nat), .int m] ∧ n ≤ 1000 ∧ 1 ≤ m ∧ m ≤ 1000 ∧ ∀ l ds H', H l = none → H' l = some (.lst (ds.map V.int)) → DrawN n m ds → Kp [] H H' → Q (.ref l) H'
theorem ok_law_draws {f : Addr} {fd : FuncData} (D : Df K mg "_law_draws" s_law_draws ["_law_cell_here", "_law_salt", "_law_count", "_law_many"] f fd) (T : BtG mg) {f1 : Addr} {fd1 : FuncData} (D_law_mixed : Df K mg "_law_mixed" s_law_mixed ["_law_cell_here", "_law_k"] f1 fd1) (G_law_mixed : FnOk P w K mg base CX0 1 f1 fd1 ["_law_cell_here", "_law_k"] spMixed) : FnOk P w K mg base CX0 2 f fd ["_law_cell_here", "_law_salt", "_law_count", "_law_many"] spDraws := by
  refine D.F.ok sc_law_draws (fun vs H Q E h => ?_) (fun cdv A outer s H vs Q E hr h => ?_)
  · obtain ⟨_, _, _, _, rfl, _⟩ := h
    rfl
  · obtain ⟨c, salt, n, m, rfl, n1000, m1, m1000, q⟩ := h
    refine ⟨_, (pss_cons (ps_set (i := 4) sc_law_draws.nd rfl (Or.inl rfl) (pe_lst pa_nil))
      (pss_cons (ps_set (i := 5) sc_law_draws.nd rfl (Or.inl rfl) (pe_op op_sub (pe_callTy (T := "int") (r := rInt1) call_int1 (by rfl) T.b_int (by decide +kernel) (pa_cons (pv 0) pa_nil)) (pe_op op_pow pe_int pe_int)))
      (pss_cons (ps_for PassesOwn.never rfl (pi_range1 rfl T.b_range (pa_cons (pv 2) pa_nil)) (pg_name (i := 6) sc_law_draws.nd rfl (Or.inl rfl)) (pss_one (ps_if (pt_cmpR op_ge (pv 5) pe_int (nomark _)) (pss_cons (ps_expr (pe_bm PySem.F.plainAttrs_list PySem.F.slot_list_append PySem.F.type_list_append mt_append (pv 4) (pa_cons (pe_op op_mod (pe_callTy (T := "int") (r := rInt1) call_int1 (by rfl) T.b_int (by decide +kernel) (pa_cons (pv 5) pa_nil)) (pv 3)) pa_nil)))
      (pss_one (ps_set (i := 5) sc_law_draws.nd rfl (Or.inl rfl) (pe_op op_fdiv (pv 5) (pv 3))))) (pss_one (ps_expr (pe_bm PySem.F.plainAttrs_list PySem.F.slot_list_append PySem.F.type_list_append mt_append (pv 4) (pa_cons (pe_op op_mod (pe_callTy (T := "int") (r := rInt1) call_int1 (by rfl) T.b_int (by decide +kernel) (pa_cons (pe_call G_law_mixed (hr.mono (by decide)) rfl D_law_mixed.g D_law_mixed.F.kp D_law_mixed.b .nil pass0 (pa_cons (pv 0) (pa_cons (pe_op op_add (pe_op op_mul (pv 1) pe_int) (pv 6)) pa_nil))) pa_nil)) (pv 3)) pa_nil)))))))
      (pss_one (ps_ret (pv 4)))))), ?_⟩
    try simp (maxSteps := 1000000) only [tSeq, tIfS, tTest, tOp, tUn, tCB, tCons, tNil, tVar, tC, rI0, rI, rU, rEq, rNe, tRet, tRetN, tAsg, gName, gSub, tBM, tBM0, tNext, tB, tNot, tAnd, tOr, tIf, tCall, tDrop, tBreak, tCont, L2.start, tDGet, sDPut, tTup, tLst, tDNewK, tRevL, rCat, rAppend, rPop, rSetL, tAndV, tOrV, tNotV, tSl, tPart, tNoPart, tM1, gTup, gCons, gNil, cxK, cxnK, List.map_cons, List.map_nil, List.length_cons, List.length_nil, List.replicate, List.cons_append, List.nil_append, List.append_nil, List.set_cons_zero, List.set_cons_succ, List.getElem?_cons_zero, List.getElem?_cons_succ, Option.some.injEq, V.ref.injEq, V.int.injEq, V.str.injEq, V.bl.injEq, V.ty.injEq, exists_eq_left', exists_eq_left, exists_and_left, List.cons.injEq, and_true, true_and, sc_ii, sc_ss, sc_bb, sc_ni, sc_in, sc_is, sc_si, sc_nn, decide_true, decide_false, reduceCtorEq, Bool.false_eq_true, if_true, if_false, ite_true, ite_false, exists_const, eq_self, false_and, and_false, or_false, false_or, exists_false, Evl.rLenS, rSum, wipe, tYes, exists_eq, exists_eq', rIxL, rIxT, rIxS, exists_and_right, gt_iff_lt, not_true_eq_false, not_false_eq_true, Bool.not_true, Bool.not_false, decide_eq_true_eq, Nat.reduceSub, Nat.reduceAdd, List.append_assoc, tChain, tDIn, tDNotIn, sDDel, tAug, ipI, rInt1_int, rInt1_bl]
    refine ⟨Nat.zero_le _, fun p np => ⟨⟨by decide, by decide, by decide⟩, ?_⟩⟩
    have kp := (Kp.new np : Kp [] H (upd H p (.lst [])))
    refine forN n (by omega) (fun j σ H' => ∃ (rest : Int) (c6 : Option V) (ds : List Int), σ = [some (.int c), some (.int (salt : Nat)), some (.int (n : Nat)), some (.int m), some (.ref p), some (.int rest), c6] ∧ H' p = some (.lst (ds.map V.int)) ∧ DrawN j m ds ∧ Kp [] H H') (fun R q' => ⟨_, rfl, q'⟩) ⟨_, _, [], rfl, upd_same, ⟨rfl, fun d h => nomatch h⟩, kp⟩ ?_ ?_
    · rintro j σ H1 hj ⟨rest, c6, ds, rfl, hp, hd, k1⟩
      have sl : (ds.map V.int).length < sizeLine := smallL (by rw [List.length_map, hd.1]; omega)
      have more : ∀ d : Int, 0 ≤ d → d < m → DrawN (j + 1) m (ds ++ [d]) := fun d d0 d1 => ⟨by rw [List.length_append, hd.1]; rfl, fun x hx => by
        rcases List.mem_append.mp hx with hx | hx
        · exact hd.2 x hx
        · rw [List.mem_singleton.mp hx]; exact ⟨d0, d1⟩⟩
      try simp (maxSteps := 1000000) only [tSeq, tIfS, tTest, tOp, tUn, tCB, tCons, tNil, tVar, tC, rI0, rI, rU, rEq, rNe, tRet, tRetN, tAsg, gName, gSub, tBM, tBM0, tNext, tB, tNot, tAnd, tOr, tIf, tCall, tDrop, tBreak, tCont, L2.start, tDGet, sDPut, tTup, tLst, tDNewK, tRevL, rCat, rAppend, rPop, rSetL, tAndV, tOrV, tNotV, tSl, tPart, tNoPart, tM1, gTup, gCons, gNil, cxK, cxnK, List.map_cons, List.map_nil, List.length_cons, List.length_nil, List.replicate, List.cons_append, List.nil_append, List.append_nil, List.set_cons_zero, List.set_cons_succ, List.getElem?_cons_zero, List.getElem?_cons_succ, Option.some.injEq, V.ref.injEq, V.int.injEq, V.str.injEq, V.bl.injEq, V.ty.injEq, exists_eq_left', exists_eq_left, exists_and_left, List.cons.injEq, and_true, true_and, sc_ii, sc_ss, sc_bb, sc_ni, sc_in, sc_is, sc_si, sc_nn, decide_true, decide_false, reduceCtorEq, Bool.false_eq_true, if_true, if_false, ite_true, ite_false, exists_const, eq_self, false_and, and_false, or_false, false_or, exists_false, Evl.rLenS, rSum, wipe, tYes, exists_eq, exists_eq', rIxL, rIxT, rIxS, exists_and_right, gt_iff_lt, not_true_eq_false, not_false_eq_true, Bool.not_true, Bool.not_false, decide_eq_true_eq, Nat.reduceSub, Nat.reduceAdd, List.append_assoc, tChain, tDIn, tDNotIn, sDDel, tAug, ipI, rInt1_int, rInt1_bl]
      by_cases h : 0 ≤ rest
      · rw [if_pos h]
        refine ⟨.inl ⟨rfl, _, sq_l hp⟩, ?_⟩
        try simp (maxSteps := 1000000) only [tSeq, tIfS, tTest, tOp, tUn, tCB, tCons, tNil, tVar, tC, rI0, rI, rU, rEq, rNe, tRet, tRetN, tAsg, gName, gSub, tBM, tBM0, tNext, tB, tNot, tAnd, tOr, tIf, tCall, tDrop, tBreak, tCont, L2.start, tDGet, sDPut, tTup, tLst, tDNewK, tRevL, rCat, rAppend, rPop, rSetL, tAndV, tOrV, tNotV, tSl, tPart, tNoPart, tM1, gTup, gCons, gNil, cxK, cxnK, List.map_cons, List.map_nil, List.length_cons, List.length_nil, List.replicate, List.cons_append, List.nil_append, List.append_nil, List.set_cons_zero, List.set_cons_succ, List.getElem?_cons_zero, List.getElem?_cons_succ, Option.some.injEq, V.ref.injEq, V.int.injEq, V.str.injEq, V.bl.injEq, V.ty.injEq, exists_eq_left', exists_eq_left, exists_and_left, List.cons.injEq, and_true, true_and, sc_ii, sc_ss, sc_bb, sc_ni, sc_in, sc_is, sc_si, sc_nn, decide_true, decide_false, reduceCtorEq, Bool.false_eq_true, if_true, if_false, ite_true, ite_false, exists_const, eq_self, false_and, and_false, or_false, false_or, exists_false, Evl.rLenS, rSum, wipe, tYes, exists_eq, exists_eq', rIxL, rIxT, rIxS, exists_and_right, gt_iff_lt, not_true_eq_false, not_false_eq_true, Bool.not_true, Bool.not_false, decide_eq_true_eq, Nat.reduceSub, Nat.reduceAdd, List.append_assoc, tChain, tDIn, tDNotIn, sDDel, tAug, ipI, rInt1_int, rInt1_bl]
        exact ⟨by omega, _, hp, sl, ⟨by omega, by omega⟩, ds ++ [rest % m], by rw [upd_same, List.map_append]; rfl, more _ (Int.emod_nonneg _ (by omega)) (Int.emod_lt_of_pos _ (by omega)), k1.wr np⟩
      · rw [if_neg h]
        refine ⟨.inl ⟨rfl, _, sq_l hp⟩, ?_⟩
        try simp (maxSteps := 1000000) only [tSeq, tIfS, tTest, tOp, tUn, tCB, tCons, tNil, tVar, tC, rI0, rI, rU, rEq, rNe, tRet, tRetN, tAsg, gName, gSub, tBM, tBM0, tNext, tB, tNot, tAnd, tOr, tIf, tCall, tDrop, tBreak, tCont, L2.start, tDGet, sDPut, tTup, tLst, tDNewK, tRevL, rCat, rAppend, rPop, rSetL, tAndV, tOrV, tNotV, tSl, tPart, tNoPart, tM1, gTup, gCons, gNil, cxK, cxnK, List.map_cons, List.map_nil, List.length_cons, List.length_nil, List.replicate, List.cons_append, List.nil_append, List.append_nil, List.set_cons_zero, List.set_cons_succ, List.getElem?_cons_zero, List.getElem?_cons_succ, Option.some.injEq, V.ref.injEq, V.int.injEq, V.str.injEq, V.bl.injEq, V.ty.injEq, exists_eq_left', exists_eq_left, exists_and_left, List.cons.injEq, and_true, true_and, sc_ii, sc_ss, sc_bb, sc_ni, sc_in, sc_is, sc_si, sc_nn, decide_true, decide_false, reduceCtorEq, Bool.false_eq_true, if_true, if_false, ite_true, ite_false, exists_const, eq_self, false_and, and_false, or_false, false_or, exists_false, Evl.rLenS, rSum, wipe, tYes, exists_eq, exists_eq', rIxL, rIxT, rIxS, exists_and_right, gt_iff_lt, not_true_eq_false, not_false_eq_true, Bool.not_true, Bool.not_false, decide_eq_true_eq, Nat.reduceSub, Nat.reduceAdd, List.append_assoc, tChain, tDIn, tDNotIn, sDDel, tAug, ipI, rInt1_int, rInt1_bl]
        refine ⟨.inr ⟨by decide, by decide⟩, c, _, rfl, fun r r0 => ?_⟩
        try simp (maxSteps := 1000000) only [tSeq, tIfS, tTest, tOp, tUn, tCB, tCons, tNil, tVar, tC, rI0, rI, rU, rEq, rNe, tRet, tRetN, tAsg, gName, gSub, tBM, tBM0, tNext, tB, tNot, tAnd, tOr, tIf, tCall, tDrop, tBreak, tCont, L2.start, tDGet, sDPut, tTup, tLst, tDNewK, tRevL, rCat, rAppend, rPop, rSetL, tAndV, tOrV, tNotV, tSl, tPart, tNoPart, tM1, gTup, gCons, gNil, cxK, cxnK, List.map_cons, List.map_nil, List.length_cons, List.length_nil, List.replicate, List.cons_append, List.nil_append, List.append_nil, List.set_cons_zero, List.set_cons_succ, List.getElem?_cons_zero, List.getElem?_cons_succ, Option.some.injEq, V.ref.injEq, V.int.injEq, V.str.injEq, V.bl.injEq, V.ty.injEq, exists_eq_left', exists_eq_left, exists_and_left, List.cons.injEq, and_true, true_and, sc_ii, sc_ss, sc_bb, sc_ni, sc_in, sc_is, sc_si, sc_nn, decide_true, decide_false, reduceCtorEq, Bool.false_eq_true, if_true, if_false, ite_true, ite_false, exists_const, eq_self, false_and, and_false, or_false, false_or, exists_false, Evl.rLenS, rSum, wipe, tYes, exists_eq, exists_eq', rIxL, rIxT, rIxS, exists_and_right, gt_iff_lt, not_true_eq_false, not_false_eq_true, Bool.not_true, Bool.not_false, decide_eq_true_eq, Nat.reduceSub, Nat.reduceAdd, List.append_assoc, tChain, tDIn, tDNotIn, sDDel, tAug, ipI, rInt1_int, rInt1_bl]
        exact ⟨by omega, _, hp, sl, ds ++ [r % m], by rw [upd_same, List.map_append]; rfl, more _ (Int.emod_nonneg _ (by omega)) (Int.emod_lt_of_pos _ (by omega)), k1.wr np⟩
    · rintro σ H1 ⟨rest, c6, ds, rfl, hp, hd, k1⟩
      try simp (maxSteps := 1000000) only [tSeq, tIfS, tTest, tOp, tUn, tCB, tCons, tNil, tVar, tC, rI0, rI, rU, rEq, rNe, tRet, tRetN, tAsg, gName, gSub, tBM, tBM0, tNext, tB, tNot, tAnd, tOr, tIf, tCall, tDrop, tBreak, tCont, L2.start, tDGet, sDPut, tTup, tLst, tDNewK, tRevL, rCat, rAppend, rPop, rSetL, tAndV, tOrV, tNotV, tSl, tPart, tNoPart, tM1, gTup, gCons, gNil, cxK, cxnK, List.map_cons, List.map_nil, List.length_cons, List.length_nil, List.replicate, List.cons_append, List.nil_append, List.append_nil, List.set_cons_zero, List.set_cons_succ, List.getElem?_cons_zero, List.getElem?_cons_succ, Option.some.injEq, V.ref.injEq, V.int.injEq, V.str.injEq, V.bl.injEq, V.ty.injEq, exists_eq_left', exists_eq_left, exists_and_left, List.cons.injEq, and_true, true_and, sc_ii, sc_ss, sc_bb, sc_ni, sc_in, sc_is, sc_si, sc_nn, decide_true, decide_false, reduceCtorEq, Bool.false_eq_true, if_true, if_false, ite_true, ite_false, exists_const, eq_self, false_and, and_false, or_false, false_or, exists_false, Evl.rLenS, rSum, wipe, tYes, exists_eq, exists_eq', rIxL, rIxT, rIxS, exists_and_right, gt_iff_lt, not_true_eq_false, not_false_eq_true, Bool.not_true, Bool.not_false, decide_eq_true_eq, Nat.reduceSub, Nat.reduceAdd, List.append_assoc, tChain, tDIn, tDNotIn, sDDel, tAug, ipI, rInt1_int, rInt1_bl]
      exact q p ds H1 np hp hd k1
end
end My

set_option Elab.async false
set_option linter.all false
set_option maxRecDepth 100000
set_option maxHeartbeats 4000000
namespace My
open PySem L2 NdefX StX
abbrev s_law_names : Stmt := top 30
theorem sc_law_names : FnScope ["_law_cell_here", "_law_letters", "_law_draws_here", "_law_size", "_law_at", "_law_stem", "_law_x", "_law_names_here", "_law_k", "_law_told", "_law_tail"] ["_law_cell_here"] (defScope s_law_names) := ⟨rfl, rfl, rfl, by decide +kernel, rfl, by decide +kernel, by decide +kernel⟩
/-- the k-th name -/
def nameK (cs : List Nat) (ap d8 d9 : Nat) (dk : Nat → Nat) (k : Nat) : Str := tx (cs.take ap ++ ([97 + (d8 + k * (1 + d9 % 12)) % 26] ++ (cs.drop ap ++ List.replicate (dk k % 3) (97 + dk k))))
theorem nameK_ok {cs : List Nat} {ap d8 d9 sz : Nat} {dk : Nat → Nat} (cl : cs.length = sz) (low : LowL cs) (s6 : sz < 6) (hap : ap ≤ sz) (hdk : ∀ k, k < 3 → dk k < 26) : LkOk ((List.range 3).map (nameK cs ap d8 d9 dk)) := by
  refine ⟨by simp, by simp, ?_, fun z hz => ?_⟩
  · unfold List.Nodup
    rw [List.pairwise_map]
    refine List.Pairwise.imp_of_mem ?_ List.pairwise_lt_range
    intro a b ha hb hab e
    have a3 := List.mem_range.mp ha
    have b3 := List.mem_range.mp hb
    have h := tx_inj e
    have h := List.append_cancel_left h
    injection h with h _
    have : (a = 0 ∧ b = 1) ∨ (a = 0 ∧ b = 2) ∨ (a = 1 ∧ b = 2) := by omega
    rcases this with ⟨rfl, rfl⟩ | ⟨rfl, rfl⟩ | ⟨rfl, rfl⟩ <;> omega
  · obtain ⟨k, hk, rfl⟩ := List.mem_map.mp hz
    have k3 := List.mem_range.mp hk
    have hd := hdk k k3
    refine tx_name (fun c hc => ?_) ?_ ?_
    · rcases List.mem_append.mp hc with h | h
      · exact low c (List.mem_of_mem_take h)
      · rcases List.mem_append.mp h with h | h
        · rw [List.mem_singleton.mp h]; omega
        · rcases List.mem_append.mp h with h | h
          · exact low c (List.mem_of_mem_drop h)
          · rw [(List.mem_replicate.mp h).2]; omega
    · simp; omega
    · simp; omega
theorem rw_ones : ∀ {us : List V} {cs : List Nat}, Rw (fun v x => v = V.str (tx [x])) us cs → us = cs.map fun c => V.str (tx [c])
  | us, [], r => r.isNil
  | us, x :: h, r => by
    obtain ⟨u, t, rfl, e, r'⟩ := r.ex
    subst e
    rw [rw_ones r']
    rfl
theorem mul_one (c : Nat) : ∀ m : Nat, m < 3 → MulOk (tx [c]) (m : Nat) ∧ Txt.mul (tx [c]) (m : Nat) = tx (List.replicate m c)
  | 0, _ => by
    refine ⟨⟨by decide, fun h => absurd (show ((0 : Nat) : Int) < 1 by decide) h, fun h => absurd (show ((0 : Nat) : Int) < 1 by decide) h⟩, ?_⟩
    rfl
  | 1, _ => by
    have e : (((1 : Nat) : Int) == 1 || (tx [c]).length == 0) = true := rfl
    refine ⟨⟨by decide, fun _ h => ?_, fun _ h => ?_⟩, rfl⟩
    · rw [e] at h; cases h
    · rw [e] at h; cases h
  | 2, _ => by
    refine ⟨⟨by decide, fun _ _ => ?_, fun _ _ => ?_⟩, rfl⟩
    · rw [tx_len]
      show ¬ ((1 : Int) > (2 ^ 63 - 1) / 2)
      decide
    · rw [tx_len]
      rfl
theorem noneB {H H1 : Hp} {e : Addr} (k : Kp [] H H1) (n : H1 e = none) : H e = none := k.free0 n
theorem lk_by {zs : List Str} (h : (decide (1 ≤ zs.length) && decide (zs.length ≤ 3) && decide zs.Nodup && zs.all nameS) = true) : LkOk zs := by
  simp only [Bool.and_eq_true, decide_eq_true_eq, List.all_eq_true] at h
  exact ⟨h.1.1.1, h.1.1.2, h.1.2, h.2⟩
section
variable {P : Program} {w : World} {K : PySem.W.Frag} {mg : Str → Option Value} {base : Heap} {tL t3 : Tok} {RC : Addr}
def spNames : Sp := fun vs H Q _ => ∃ (c : Int), vs = [.int c] ∧ ∀ l zs H', H l = none → H' l = some (.lst (zs.map V.str)) → zs.length = 3 → LkOk zs → Kp [] H H' → Q (.ref l) H'
theorem ok_law_names {f : Addr} {fd : FuncData} (D : Df K mg "_law_names" s_law_names ["_law_cell_here"] f fd) (T : BtG mg) {f1 : Addr} {fd1 : FuncData} (D_law_draws : Df K mg "_law_draws" s_law_draws ["_law_cell_here", "_law_salt", "_law_count", "_law_many"] f1 fd1) (G_law_draws : FnOk P w K mg base CX0 2 f1 fd1 ["_law_cell_here", "_law_salt", "_law_count", "_law_many"] spDraws) : FnOk P w K mg base CX0 3 f fd ["_law_cell_here"] spNames := by
  refine D.F.ok sc_law_names (fun vs H Q E h => ?_) (fun cdv A outer s H vs Q E hr h => ?_)
  · obtain ⟨_, rfl, _⟩ := h
    rfl
  · obtain ⟨c, rfl, q⟩ := h
    have hu := hu_of hr
    refine ⟨_, (pss_cons (ps_set (i := 1) sc_law_names.nd rfl (Or.inr rfl) pe_str)
      (pss_cons (ps_set (i := 2) sc_law_names.nd rfl (Or.inl rfl) (pe_call G_law_draws (hr.mono (by decide)) rfl D_law_draws.g D_law_draws.F.kp D_law_draws.b .nil pass0 (pa_cons (pv 0) (pa_cons pe_int (pa_cons pe_int (pa_cons pe_int pa_nil))))))
      (pss_cons (ps_if (pt_cmpR op_lt (pe_ix (r := rIxL K) ix_list (pv 2) pe_int (fun _ _ => rfl)) pe_int (nomark _)) (pss_one (ps_ret (pe_ix (r := rIxL K) ix_list (pe_lst (pa_cons (pe_lst (pa_cons pe_str (pa_cons pe_str (pa_cons pe_str pa_nil)))) (pa_cons (pe_lst (pa_cons pe_str (pa_cons pe_str (pa_cons pe_str pa_nil)))) (pa_cons (pe_lst (pa_cons pe_str (pa_cons pe_str (pa_cons pe_str pa_nil)))) (pa_cons (pe_lst (pa_cons pe_str (pa_cons pe_str (pa_cons pe_str pa_nil)))) pa_nil))))) (pe_ix (r := rIxL K) ix_list (pv 2) pe_int (fun _ _ => rfl)) (fun _ _ => rfl)))) pss_nil)
      (pss_cons (ps_set (i := 3) sc_law_names.nd rfl (Or.inl rfl) (pe_op op_mod (pe_callTy (T := "int") (r := rInt1) call_int1 (by rfl) T.b_int (by decide +kernel) (pa_cons (pe_ix (r := rIxL K) ix_list (pv 2) pe_int (fun _ _ => rfl)) pa_nil)) pe_int))
      (pss_cons (ps_set (i := 4) sc_law_names.nd rfl (Or.inl rfl) (pe_op op_mod (pe_callTy (T := "int") (r := rInt1) call_int1 (by rfl) T.b_int (by decide +kernel) (pa_cons (pe_ix (r := rIxL K) ix_list (pv 2) pe_int (fun _ _ => rfl)) pa_nil)) (pe_op op_add (pv 3) pe_int)))
      (pss_cons (ps_set (i := 5) sc_law_names.nd rfl (Or.inl rfl) (pe_join pe_str (pe_lc (own := [("_law_x", 6)]) (g := (gName 6)) (tt := tYes) rfl sc_law_names.nd (pi_list (pe_slice sl_list (pv 2) (po_some pe_int) (po_some (pe_op op_add pe_int (pv 3))))) (blkOk_by (N := ["_law_cell_here", "_law_letters", "_law_draws_here", "_law_size", "_law_at", "_law_stem", "_law_x", "_law_names_here", "_law_k", "_law_told", "_law_tail"]) (sc := defScope s_law_names) (by decide +kernel)) (fun _ _ _ _ _ => (pg_name (i := 6) sc_law_names.nd rfl (Or.inl rfl))) (fun _ _ _ _ _ => pts_nil) (fun _ _ _ _ _ => (pe_ix ix_str (pv 1) (pv 6) (fun _ _ => rfl))))))
      (pss_cons (ps_set (i := 7) sc_law_names.nd rfl (Or.inl rfl) (pe_lst pa_nil))
      (pss_cons (ps_for PassesOwn.never rfl (pi_range1 rfl T.b_range (pa_cons pe_int pa_nil)) (pg_name (i := 8) sc_law_names.nd rfl (Or.inl rfl)) (pss_cons (ps_set (i := 9) sc_law_names.nd rfl (Or.inl rfl) (pe_ix ix_str (pv 1) (pe_op op_mod (pe_callTy (T := "int") (r := rInt1) call_int1 (by rfl) T.b_int (by decide +kernel) (pa_cons (pe_op op_add (pe_ix (r := rIxL K) ix_list (pv 2) pe_int (fun _ _ => rfl)) (pe_op op_mul (pv 8) (pe_op op_add pe_int (pe_op op_mod (pe_callTy (T := "int") (r := rInt1) call_int1 (by rfl) T.b_int (by decide +kernel) (pa_cons (pe_ix (r := rIxL K) ix_list (pv 2) pe_int (fun _ _ => rfl)) pa_nil)) pe_int)))) pa_nil)) pe_int) (fun _ _ => rfl)))
      (pss_cons (ps_set (i := 10) sc_law_names.nd rfl (Or.inl rfl) (pe_op op_mulS (pe_ix ix_str (pv 1) (pe_ix (r := rIxL K) ix_list (pv 2) (pe_op op_add pe_int (pv 8)) (fun _ _ => rfl)) (fun _ _ => rfl)) (pe_op op_mod (pe_callTy (T := "int") (r := rInt1) call_int1 (by rfl) T.b_int (by decide +kernel) (pa_cons (pe_ix (r := rIxL K) ix_list (pv 2) (pe_op op_add pe_int (pv 8)) (fun _ _ => rfl)) pa_nil)) pe_int)))
      (pss_one (ps_expr (pe_bm PySem.F.plainAttrs_list PySem.F.slot_list_append PySem.F.type_list_append mt_append (pv 7) (pa_cons (pe_op op_add_str (pe_op op_add_str (pe_op op_add_str (pe_slice sl_str (pv 5) po_none (po_some (pv 4))) (pv 9)) (pe_slice sl_str (pv 5) (po_some (pv 4)) po_none)) (pv 10)) pa_nil)))))))
      (pss_one (ps_ret (pv 7))))))))))), ?_⟩
    try simp (maxSteps := 1000000) only [tSeq, tIfS, tTest, tOp, tUn, tCB, tCons, tNil, tVar, tC, rI0, rI, rU, rEq, rNe, tRet, tRetN, tAsg, gName, gSub, tBM, tBM0, tNext, tB, tNot, tAnd, tOr, tIf, tCall, tDrop, tBreak, tCont, L2.start, tDGet, sDPut, tTup, tLst, tDNewK, tRevL, rCat, rAppend, rPop, rSetL, tAndV, tOrV, tNotV, tSl, tPart, tNoPart, tM1, gTup, gCons, gNil, cxK, cxnK, List.map_cons, List.map_nil, List.length_cons, List.length_nil, List.replicate, List.cons_append, List.nil_append, List.append_nil, List.set_cons_zero, List.set_cons_succ, List.getElem?_cons_zero, List.getElem?_cons_succ, Option.some.injEq, V.ref.injEq, V.int.injEq, V.str.injEq, V.bl.injEq, V.ty.injEq, exists_eq_left', exists_eq_left, exists_and_left, List.cons.injEq, and_true, true_and, sc_ii, sc_ss, sc_bb, sc_ni, sc_in, sc_is, sc_si, sc_nn, decide_true, decide_false, reduceCtorEq, Bool.false_eq_true, if_true, if_false, ite_true, ite_false, exists_const, eq_self, false_and, and_false, or_false, false_or, exists_false, Evl.rLenS, rSum, wipe, tYes, exists_eq, exists_eq', rIxL, rIxT, rIxS, exists_and_right, gt_iff_lt, not_true_eq_false, not_false_eq_true, Bool.not_true, Bool.not_false, decide_eq_true_eq, Nat.reduceSub, Nat.reduceAdd, List.append_assoc, tChain, tDIn, tDNotIn, sDDel, tAug, ipI, rInt1_int, rInt1_bl]
    refine ⟨c, 0, 13, 26, rfl, by decide, by decide, by decide, fun l ds H1 nl hl hd k1 => ?_⟩
    dsimp only
    have dlen : ds.length = 13 := hd.1
    have dd : ∀ i, i < 13 → ∃ v : Nat, ds[i]? = some (v : Int) ∧ v < 26 := fun i hi => by
      have e := List.getElem?_eq_getElem (l := ds) (i := i) (by omega)
      have := hd.2 _ (List.mem_of_getElem? e)
      exact ⟨(ds[i]'(by omega)).toNat, by rw [e, Int.toNat_of_nonneg this.1], by omega⟩
    have dV : ∀ {i : Nat} {v : Int}, ds[i]? = some v → atI (ds.map V.int) ((i : Nat) : Int) = some (.int v) := fun {i v} e => atI_nat (by rw [List.getElem?_map, e]; rfl)
    obtain ⟨d0, e0, b0⟩ := dd 0 (by decide)
    obtain ⟨d1, e1, b1⟩ := dd 1 (by decide)
    obtain ⟨d2, e2, b2⟩ := dd 2 (by decide)
    obtain ⟨d8, e8, b8⟩ := dd 8 (by decide)
    obtain ⟨d9, e9, b9⟩ := dd 9 (by decide)
    refine ⟨l, rfl, _, sq_l hl, _, dV e0, _, rfl, ?_⟩
    by_cases h4 : (d0 : Int) < 4
    · rw [if_pos h4]
      have three : (3 : Nat) ≤ sizeLine := by rw [sizeLine_eq]; decide
      refine ⟨three, fun p1 n1 => ⟨three, fun p2 n2 => ⟨three, fun p3 n3 => ⟨three, fun p4 n4 => ⟨by rw [sizeLine_eq]; decide, fun p5 n5 => ?_⟩⟩⟩⟩⟩
      have q1 := (Kp.new n1 (S := []) (o := .lst [V.str (Str.ofString "lock"), V.str (Str.ofString "free"), V.str (Str.ofString "held")]))
      have q2 := (Kp.new n2 (S := []) (o := .lst [V.str (Str.ofString "c"), V.str (Str.ofString "b"), V.str (Str.ofString "a")]))
      have q3 := (Kp.new n3 (S := []) (o := .lst [V.str (Str.ofString "a"), V.str (Str.ofString "ab"), V.str (Str.ofString "b")]))
      have q4 := (Kp.new n4 (S := []) (o := .lst [V.str (Str.ofString "zzzzzzzz"), V.str (Str.ofString "z"), V.str (Str.ofString "zz")]))
      have q5 := (Kp.new n5 (S := []) (o := .lst [V.ref p1, V.ref p2, V.ref p3, V.ref p4]))
      have kk := ((q1.trans q2).trans q3).trans q4 |>.trans q5
      have g1 := ((q2.trans q3).trans q4 |>.trans q5) _ _ not0 (upd_same (H := H1) (a := p1) (o := .lst [V.str (Str.ofString "lock"), V.str (Str.ofString "free"), V.str (Str.ofString "held")]))
      have g2 := ((q3.trans q4).trans q5) _ _ not0 upd_same
      have g3 := (q4.trans q5) _ _ not0 upd_same
      have g4 := q5 _ _ not0 upd_same
      have g5 := upd_same (H := upd (upd (upd (upd H1 p1 (.lst [V.str (Str.ofString "lock"), V.str (Str.ofString "free"), V.str (Str.ofString "held")])) p2 (.lst [V.str (Str.ofString "c"), V.str (Str.ofString "b"), V.str (Str.ofString "a")])) p3 (.lst [V.str (Str.ofString "a"), V.str (Str.ofString "ab"), V.str (Str.ofString "b")])) p4 (.lst [V.str (Str.ofString "zzzzzzzz"), V.str (Str.ofString "z"), V.str (Str.ofString "zz")])) (a := p5) (o := .lst [V.ref p1, V.ref p2, V.ref p3, V.ref p4])
      have z1 := noneB k1 n1
      have z2 := noneB (k1.trans q1) n2
      have z3 := noneB ((k1.trans q1).trans q2) n3
      have z4 := noneB (((k1.trans q1).trans q2).trans q3) n4
      generalize upd (upd (upd (upd (upd H1 p1 (.lst [V.str (Str.ofString "lock"), V.str (Str.ofString "free"), V.str (Str.ofString "held")])) p2 (.lst [V.str (Str.ofString "c"), V.str (Str.ofString "b"), V.str (Str.ofString "a")])) p3 (.lst [V.str (Str.ofString "a"), V.str (Str.ofString "ab"), V.str (Str.ofString "b")])) p4 (.lst [V.str (Str.ofString "zzzzzzzz"), V.str (Str.ofString "z"), V.str (Str.ofString "zz")])) p5 (.lst [V.ref p1, V.ref p2, V.ref p3, V.ref p4]) = H2 at kk g1 g2 g3 g4 g5 ⊢
      have kH := k1.trans kk
      refine ⟨l, rfl, _, sq_l (kk _ _ not0 hl), _, dV e0, _, _, rfl, sq_l g5, ?_⟩
      have : d0 = 0 ∨ d0 = 1 ∨ d0 = 2 ∨ d0 = 3 := by omega
      rcases this with rfl | rfl | rfl | rfl
      · exact ⟨.ref p1, rfl, q p1 ["lock", "free", "held"] H2 z1 g1 rfl (lk_by (by decide +kernel)) kH⟩
      · exact ⟨.ref p2, rfl, q p2 ["c", "b", "a"] H2 z2 g2 rfl (lk_by (by decide +kernel)) kH⟩
      · exact ⟨.ref p3, rfl, q p3 ["a", "ab", "b"] H2 z3 g3 rfl (lk_by (by decide +kernel)) kH⟩
      · exact ⟨.ref p4, rfl, q p4 ["zzzzzzzz", "z", "zz"] H2 z4 g4 rfl (lk_by (by decide +kernel)) kH⟩
    · rw [if_neg h4]
      refine ⟨l, rfl, _, sq_l hl, _, dV e1, ?_⟩
      try simp (maxSteps := 1000000) only [tSeq, tIfS, tTest, tOp, tUn, tCB, tCons, tNil, tVar, tC, rI0, rI, rU, rEq, rNe, tRet, tRetN, tAsg, gName, gSub, tBM, tBM0, tNext, tB, tNot, tAnd, tOr, tIf, tCall, tDrop, tBreak, tCont, L2.start, tDGet, sDPut, tTup, tLst, tDNewK, tRevL, rCat, rAppend, rPop, rSetL, tAndV, tOrV, tNotV, tSl, tPart, tNoPart, tM1, gTup, gCons, gNil, cxK, cxnK, List.map_cons, List.map_nil, List.length_cons, List.length_nil, List.replicate, List.cons_append, List.nil_append, List.append_nil, List.set_cons_zero, List.set_cons_succ, List.getElem?_cons_zero, List.getElem?_cons_succ, Option.some.injEq, V.ref.injEq, V.int.injEq, V.str.injEq, V.bl.injEq, V.ty.injEq, exists_eq_left', exists_eq_left, exists_and_left, List.cons.injEq, and_true, true_and, sc_ii, sc_ss, sc_bb, sc_ni, sc_in, sc_is, sc_si, sc_nn, decide_true, decide_false, reduceCtorEq, Bool.false_eq_true, if_true, if_false, ite_true, ite_false, exists_const, eq_self, false_and, and_false, or_false, false_or, exists_false, Evl.rLenS, rSum, wipe, tYes, exists_eq, exists_eq', rIxL, rIxT, rIxS, exists_and_right, gt_iff_lt, not_true_eq_false, not_false_eq_true, Bool.not_true, Bool.not_false, decide_eq_true_eq, Nat.reduceSub, Nat.reduceAdd, List.append_assoc, tChain, tDIn, tDNotIn, sDDel, tAug, ipI, rInt1_int, rInt1_bl]
      refine ⟨by decide, _, sq_l hl, _, dV e2, ?_⟩
      try simp (maxSteps := 1000000) only [tSeq, tIfS, tTest, tOp, tUn, tCB, tCons, tNil, tVar, tC, rI0, rI, rU, rEq, rNe, tRet, tRetN, tAsg, gName, gSub, tBM, tBM0, tNext, tB, tNot, tAnd, tOr, tIf, tCall, tDrop, tBreak, tCont, L2.start, tDGet, sDPut, tTup, tLst, tDNewK, tRevL, rCat, rAppend, rPop, rSetL, tAndV, tOrV, tNotV, tSl, tPart, tNoPart, tM1, gTup, gCons, gNil, cxK, cxnK, List.map_cons, List.map_nil, List.length_cons, List.length_nil, List.replicate, List.cons_append, List.nil_append, List.append_nil, List.set_cons_zero, List.set_cons_succ, List.getElem?_cons_zero, List.getElem?_cons_succ, Option.some.injEq, V.ref.injEq, V.int.injEq, V.str.injEq, V.bl.injEq, V.ty.injEq, exists_eq_left', exists_eq_left, exists_and_left, List.cons.injEq, and_true, true_and, sc_ii, sc_ss, sc_bb, sc_ni, sc_in, sc_is, sc_si, sc_nn, decide_true, decide_false, reduceCtorEq, Bool.false_eq_true, if_true, if_false, ite_true, ite_false, exists_const, eq_self, false_and, and_false, or_false, false_or, exists_false, Evl.rLenS, rSum, wipe, tYes, exists_eq, exists_eq', rIxL, rIxT, rIxS, exists_and_right, gt_iff_lt, not_true_eq_false, not_false_eq_true, Bool.not_true, Bool.not_false, decide_eq_true_eq, Nat.reduceSub, Nat.reduceAdd, List.append_assoc, tChain, tDIn, tDNotIn, sDDel, tAug, ipI, rInt1_int, rInt1_bl]
      obtain ⟨sz, esz, sz6⟩ : ∃ sz : Nat, (d1 : Int) % 6 = (sz : Nat) ∧ sz < 6 := ⟨d1 % 6, by omega, by omega⟩
      rw [esz]
      obtain ⟨ap, eap, apz⟩ : ∃ ap : Nat, (d2 : Int) % ((sz : Nat) + 1) = (ap : Nat) ∧ ap ≤ sz := ⟨d2 % (sz + 1), by push_cast; rfl, by have := Nat.mod_lt d2 (show 0 < sz + 1 by omega); omega⟩
      rw [eap]
      refine ⟨by omega, lc_src ?_⟩
      try simp (maxSteps := 1000000) only [tSeq, tIfS, tTest, tOp, tUn, tCB, tCons, tNil, tVar, tC, rI0, rI, rU, rEq, rNe, tRet, tRetN, tAsg, gName, gSub, tBM, tBM0, tNext, tB, tNot, tAnd, tOr, tIf, tCall, tDrop, tBreak, tCont, L2.start, tDGet, sDPut, tTup, tLst, tDNewK, tRevL, rCat, rAppend, rPop, rSetL, tAndV, tOrV, tNotV, tSl, tPart, tNoPart, tM1, gTup, gCons, gNil, cxK, cxnK, List.map_cons, List.map_nil, List.length_cons, List.length_nil, List.replicate, List.cons_append, List.nil_append, List.append_nil, List.set_cons_zero, List.set_cons_succ, List.getElem?_cons_zero, List.getElem?_cons_succ, Option.some.injEq, V.ref.injEq, V.int.injEq, V.str.injEq, V.bl.injEq, V.ty.injEq, exists_eq_left', exists_eq_left, exists_and_left, List.cons.injEq, and_true, true_and, sc_ii, sc_ss, sc_bb, sc_ni, sc_in, sc_is, sc_si, sc_nn, decide_true, decide_false, reduceCtorEq, Bool.false_eq_true, if_true, if_false, ite_true, ite_false, exists_const, eq_self, false_and, and_false, or_false, false_or, exists_false, Evl.rLenS, rSum, wipe, tYes, exists_eq, exists_eq', rIxL, rIxT, rIxS, exists_and_right, gt_iff_lt, not_true_eq_false, not_false_eq_true, Bool.not_true, Bool.not_false, decide_eq_true_eq, Nat.reduceSub, Nat.reduceAdd, List.append_assoc, tChain, tDIn, tDNotIn, sDDel, tAug, ipI, rInt1_int, rInt1_bl]
      refine ⟨l, _, rfl, sq_l hl, fun pa npa => ?_⟩
      rw [show (some (3 : Int)) = some ((3 : Nat) : Int) from rfl, show (3 : Int) + ((sz : Nat) : Int) = ((3 + sz : Nat) : Int) by push_cast; rfl, cut_ij (by omega), show 3 + sz - 3 = sz by omega]
      have ka := (Kp.new npa : Kp [] H1 (upd H1 pa (.lst (((ds.drop 3).take sz).map V.int))))
      have hpa : (upd H1 pa (.lst (((ds.drop 3).take sz).map V.int))) pa = some (.lst (((ds.drop 3).take sz).map V.int)) := upd_same
      generalize upd H1 pa (.lst (((ds.drop 3).take sz).map V.int)) = H2 at ka hpa ⊢
      have hin : ∀ x ∈ (ds.drop 3).take sz, 0 ≤ x ∧ x < 26 := fun x hx => hd.2 x (List.mem_of_mem_drop (List.mem_of_mem_take hx))
      have hlen : ((ds.drop 3).take sz).length = sz := by rw [List.length_take, List.length_drop]; omega
      generalize (ds.drop 3).take sz = xs at hpa hin hlen
      refine lcG (R := fun _ v x => v = V.int x) (R2 := fun _ v x => v = V.str (tx [x])) (fun _ _ _ _ _ h => h) (fun _ _ _ _ _ h => h) (fun _ => true) (fun x => 97 + x.toNat) (src_list (fun R q' => q') (sq_l hpa)) (rwInts xs) (by omega) (fun v x H3 N N0 hx hv k3 hN hN0 => ?_) fun D us' H3 nD hD hrw k3 => ?_
      · subst hv
        obtain ⟨x0, x1⟩ := hin x hx
        refine ⟨by simp [wipe], ?_⟩
        try simp (maxSteps := 1000000) only [tSeq, tIfS, tTest, tOp, tUn, tCB, tCons, tNil, tVar, tC, rI0, rI, rU, rEq, rNe, tRet, tRetN, tAsg, gName, gSub, tBM, tBM0, tNext, tB, tNot, tAnd, tOr, tIf, tCall, tDrop, tBreak, tCont, L2.start, tDGet, sDPut, tTup, tLst, tDNewK, tRevL, rCat, rAppend, rPop, rSetL, tAndV, tOrV, tNotV, tSl, tPart, tNoPart, tM1, gTup, gCons, gNil, cxK, cxnK, List.map_cons, List.map_nil, List.length_cons, List.length_nil, List.replicate, List.cons_append, List.nil_append, List.append_nil, List.set_cons_zero, List.set_cons_succ, List.getElem?_cons_zero, List.getElem?_cons_succ, Option.some.injEq, V.ref.injEq, V.int.injEq, V.str.injEq, V.bl.injEq, V.ty.injEq, exists_eq_left', exists_eq_left, exists_and_left, List.cons.injEq, and_true, true_and, sc_ii, sc_ss, sc_bb, sc_ni, sc_in, sc_is, sc_si, sc_nn, decide_true, decide_false, reduceCtorEq, Bool.false_eq_true, if_true, if_false, ite_true, ite_false, exists_const, eq_self, false_and, and_false, or_false, false_or, exists_false, Evl.rLenS, rSum, wipe, tYes, exists_eq, exists_eq', rIxL, rIxT, rIxS, exists_and_right, gt_iff_lt, not_true_eq_false, not_false_eq_true, Bool.not_true, Bool.not_false, decide_eq_true_eq, Nat.reduceSub, Nat.reduceAdd, List.append_assoc, tChain, tDIn, tDNotIn, sDDel, tAug, ipI, rInt1_int, rInt1_bl]
        rw [show x = ((x.toNat : Nat) : Int) from (Int.toNat_of_nonneg x0).symm]
        exact ⟨by decide +kernel, _, atI_nat (lets_at x.toNat (by omega)), hN rfl _ _ rfl (Kp.refl _ _)⟩
      · rw [List.filter_eq_self.mpr (fun _ _ => rfl)] at hrw
        have cl : (xs.map fun x => 97 + x.toNat).length = sz := by rw [List.length_map]; exact hlen
        have clow : LowL (xs.map fun x => 97 + x.toNat) := fun c hc => by
          obtain ⟨x, hx, rfl⟩ := List.mem_map.mp hc
          have := hin x hx
          omega
        generalize (xs.map fun x => 97 + x.toNat) = cs at *
        have e := rw_ones hrw
        subst e
        have k13 := ka.trans k3
        refine ⟨D, rfl, cs.map (fun c => tx [c]), .inl (by rw [List.map_map]; exact sq_l hD), by rw [sum_ones]; show cs.length + _ * 0 ≤ _; omega, Nat.zero_le _, fun nl nnl => ?_⟩
        rw [show Txt.join (Str.ofString "") (cs.map fun c => tx [c]) = tx cs from join_ones cs]
        have kn := k13.trans (Kp.new nnl (o := .lst []))
        have nnl0 : H nl = none := noneB (k1.trans k13) nnl
        obtain ⟨dk, hdk⟩ : ∃ dk : Nat → Nat, ∀ k, k < 3 → ds[10 + k]? = some ((dk k : Nat) : Int) ∧ dk k < 26 := by
          obtain ⟨a0, ea0, ba0⟩ := dd 10 (by decide)
          obtain ⟨a1, ea1, ba1⟩ := dd 11 (by decide)
          obtain ⟨a2, ea2, ba2⟩ := dd 12 (by decide)
          refine ⟨fun k => if k = 0 then a0 else if k = 1 then a1 else a2, fun k hk => ?_⟩
          have : k = 0 ∨ k = 1 ∨ k = 2 := by omega
          rcases this with rfl | rfl | rfl
          · exact ⟨ea0, ba0⟩
          · exact ⟨ea1, ba1⟩
          · exact ⟨ea2, ba2⟩
        refine forN 3 (by decide) (fun j σ H' => ∃ c8 c9 c10, σ = [some (.int c), some (.str (Str.ofString "abcdefghijklmnopqrstuvwxyz")), some (.ref l), some (.int (sz : Nat)), some (.int (ap : Nat)), some (.str (tx cs)), none, some (.ref nl), c8, c9, c10] ∧ H' nl = some (.lst (((List.range j).map (nameK cs ap d8 d9 dk)).map V.str)) ∧ Kp [] H1 H') (fun R q' => q') ⟨_, _, _, rfl, upd_same, kn⟩ ?_ ?_
        · rintro j σ H4 hj ⟨c8, c9, c10, rfl, hnl, k14⟩
          have hl4 := k14 _ _ not0 hl
          obtain ⟨edk, bdk⟩ := hdk j hj
          try simp (maxSteps := 1000000) only [tSeq, tIfS, tTest, tOp, tUn, tCB, tCons, tNil, tVar, tC, rI0, rI, rU, rEq, rNe, tRet, tRetN, tAsg, gName, gSub, tBM, tBM0, tNext, tB, tNot, tAnd, tOr, tIf, tCall, tDrop, tBreak, tCont, L2.start, tDGet, sDPut, tTup, tLst, tDNewK, tRevL, rCat, rAppend, rPop, rSetL, tAndV, tOrV, tNotV, tSl, tPart, tNoPart, tM1, gTup, gCons, gNil, cxK, cxnK, List.map_cons, List.map_nil, List.length_cons, List.length_nil, List.replicate, List.cons_append, List.nil_append, List.append_nil, List.set_cons_zero, List.set_cons_succ, List.getElem?_cons_zero, List.getElem?_cons_succ, Option.some.injEq, V.ref.injEq, V.int.injEq, V.str.injEq, V.bl.injEq, V.ty.injEq, exists_eq_left', exists_eq_left, exists_and_left, List.cons.injEq, and_true, true_and, sc_ii, sc_ss, sc_bb, sc_ni, sc_in, sc_is, sc_si, sc_nn, decide_true, decide_false, reduceCtorEq, Bool.false_eq_true, if_true, if_false, ite_true, ite_false, exists_const, eq_self, false_and, and_false, or_false, false_or, exists_false, Evl.rLenS, rSum, wipe, tYes, exists_eq, exists_eq', rIxL, rIxT, rIxS, exists_and_right, gt_iff_lt, not_true_eq_false, not_false_eq_true, Bool.not_true, Bool.not_false, decide_eq_true_eq, Nat.reduceSub, Nat.reduceAdd, List.append_assoc, tChain, tDIn, tDNotIn, sDDel, tAug, ipI, rInt1_int, rInt1_bl]
          have e8' : atI (ds.map V.int) 8 = some (.int (d8 : Nat)) := dV e8
          have e9' : atI (ds.map V.int) 9 = some (.int (d9 : Nat)) := dV e9
          have edk' : atI (ds.map V.int) (10 + (j : Nat)) = some (.int (dk j : Nat)) := by
            have := dV edk
            push_cast at this
            exact this
          refine ⟨_, sq_l hl4, _, e8', _, sq_l hl4, _, e9', ?_⟩
          try simp (maxSteps := 1000000) only [tSeq, tIfS, tTest, tOp, tUn, tCB, tCons, tNil, tVar, tC, rI0, rI, rU, rEq, rNe, tRet, tRetN, tAsg, gName, gSub, tBM, tBM0, tNext, tB, tNot, tAnd, tOr, tIf, tCall, tDrop, tBreak, tCont, L2.start, tDGet, sDPut, tTup, tLst, tDNewK, tRevL, rCat, rAppend, rPop, rSetL, tAndV, tOrV, tNotV, tSl, tPart, tNoPart, tM1, gTup, gCons, gNil, cxK, cxnK, List.map_cons, List.map_nil, List.length_cons, List.length_nil, List.replicate, List.cons_append, List.nil_append, List.append_nil, List.set_cons_zero, List.set_cons_succ, List.getElem?_cons_zero, List.getElem?_cons_succ, Option.some.injEq, V.ref.injEq, V.int.injEq, V.str.injEq, V.bl.injEq, V.ty.injEq, exists_eq_left', exists_eq_left, exists_and_left, List.cons.injEq, and_true, true_and, sc_ii, sc_ss, sc_bb, sc_ni, sc_in, sc_is, sc_si, sc_nn, decide_true, decide_false, reduceCtorEq, Bool.false_eq_true, if_true, if_false, ite_true, ite_false, exists_const, eq_self, false_and, and_false, or_false, false_or, exists_false, Evl.rLenS, rSum, wipe, tYes, exists_eq, exists_eq', rIxL, rIxT, rIxS, exists_and_right, gt_iff_lt, not_true_eq_false, not_false_eq_true, Bool.not_true, Bool.not_false, decide_eq_true_eq, Nat.reduceSub, Nat.reduceAdd, List.append_assoc, tChain, tDIn, tDNotIn, sDDel, tAug, ipI, rInt1_int, rInt1_bl]
          have em : ((d8 : Int) + (j : Nat) * (1 + (d9 : Int) % 12)) % 26 = (((d8 + j * (1 + d9 % 12)) % 26 : Nat) : Int) := by push_cast; rfl
          rw [em]
          refine ⟨by decide, .inl ⟨by omega, by omega⟩, by decide, by decide +kernel, _, atI_nat (lets_at _ (Nat.mod_lt _ (by decide))), _, sq_l hl4, _, edk', _, rfl, by decide +kernel, _, atI_nat (lets_at _ bdk), _, sq_l hl4, _, edk', ?_⟩
          try simp (maxSteps := 1000000) only [tSeq, tIfS, tTest, tOp, tUn, tCB, tCons, tNil, tVar, tC, rI0, rI, rU, rEq, rNe, tRet, tRetN, tAsg, gName, gSub, tBM, tBM0, tNext, tB, tNot, tAnd, tOr, tIf, tCall, tDrop, tBreak, tCont, L2.start, tDGet, sDPut, tTup, tLst, tDNewK, tRevL, rCat, rAppend, rPop, rSetL, tAndV, tOrV, tNotV, tSl, tPart, tNoPart, tM1, gTup, gCons, gNil, cxK, cxnK, List.map_cons, List.map_nil, List.length_cons, List.length_nil, List.replicate, List.cons_append, List.nil_append, List.append_nil, List.set_cons_zero, List.set_cons_succ, List.getElem?_cons_zero, List.getElem?_cons_succ, Option.some.injEq, V.ref.injEq, V.int.injEq, V.str.injEq, V.bl.injEq, V.ty.injEq, exists_eq_left', exists_eq_left, exists_and_left, List.cons.injEq, and_true, true_and, sc_ii, sc_ss, sc_bb, sc_ni, sc_in, sc_is, sc_si, sc_nn, decide_true, decide_false, reduceCtorEq, Bool.false_eq_true, if_true, if_false, ite_true, ite_false, exists_const, eq_self, false_and, and_false, or_false, false_or, exists_false, Evl.rLenS, rSum, wipe, tYes, exists_eq, exists_eq', rIxL, rIxT, rIxS, exists_and_right, gt_iff_lt, not_true_eq_false, not_false_eq_true, Bool.not_true, Bool.not_false, decide_eq_true_eq, Nat.reduceSub, Nat.reduceAdd, List.append_assoc, tChain, tDIn, tDNotIn, sDDel, tAug, ipI, rInt1_int, rInt1_bl]
          have m3 : dk j % 3 < 3 := Nat.mod_lt _ (by decide)
          rw [show ((dk j : Nat) : Int) % 3 = ((dk j % 3 : Nat) : Int) by push_cast; rfl]
          obtain ⟨mok, meq⟩ := mul_one (97 + dk j) (dk j % 3) m3
          have u16 : sizeLine = 16777216 := sizeLine_eq
          refine ⟨by decide, tx [97 + dk j], _, rfl, rfl, mok, ?_⟩
          rw [meq]
          refine ⟨.inl ⟨rfl, _, sq_l hnl⟩, tx cs, rfl, by rw [tx_len]; omega, ?_⟩
          rw [cutTo]
          refine ⟨_, rfl, ?_⟩
          have one : ∀ c : Nat, ({ cps := #[c] } : Str) = tx [c] := fun c => rfl
          rw [one]
          refine ⟨by rw [tx_len, tx_len, List.length_take]; simp; omega, tx cs, rfl, by rw [tx_len]; omega, ?_⟩
          rw [cutFrom]
          refine ⟨_, rfl, ?_⟩
          rw [tx_app]
          refine ⟨by rw [tx_len, tx_len]; simp; omega, _, rfl, ?_⟩
          rw [tx_app]
          refine ⟨by rw [tx_len, tx_len]; simp; omega, ?_⟩
          rw [tx_app]
          refine ⟨_, hnl, smallL (by simp; omega), ?_, k14.wr (noneB k13 nnl)⟩
          rw [upd_same, List.range_succ, List.map_append, List.map_append, List.map_cons, List.map_cons, List.map_nil, List.map_nil]
          unfold nameK
          rw [List.append_assoc, List.append_assoc]
        · rintro σ H4 ⟨c8, c9, c10, rfl, hnl, k14⟩
          try simp (maxSteps := 1000000) only [tSeq, tIfS, tTest, tOp, tUn, tCB, tCons, tNil, tVar, tC, rI0, rI, rU, rEq, rNe, tRet, tRetN, tAsg, gName, gSub, tBM, tBM0, tNext, tB, tNot, tAnd, tOr, tIf, tCall, tDrop, tBreak, tCont, L2.start, tDGet, sDPut, tTup, tLst, tDNewK, tRevL, rCat, rAppend, rPop, rSetL, tAndV, tOrV, tNotV, tSl, tPart, tNoPart, tM1, gTup, gCons, gNil, cxK, cxnK, List.map_cons, List.map_nil, List.length_cons, List.length_nil, List.replicate, List.cons_append, List.nil_append, List.append_nil, List.set_cons_zero, List.set_cons_succ, List.getElem?_cons_zero, List.getElem?_cons_succ, Option.some.injEq, V.ref.injEq, V.int.injEq, V.str.injEq, V.bl.injEq, V.ty.injEq, exists_eq_left', exists_eq_left, exists_and_left, List.cons.injEq, and_true, true_and, sc_ii, sc_ss, sc_bb, sc_ni, sc_in, sc_is, sc_si, sc_nn, decide_true, decide_false, reduceCtorEq, Bool.false_eq_true, if_true, if_false, ite_true, ite_false, exists_const, eq_self, false_and, and_false, or_false, false_or, exists_false, Evl.rLenS, rSum, wipe, tYes, exists_eq, exists_eq', rIxL, rIxT, rIxS, exists_and_right, gt_iff_lt, not_true_eq_false, not_false_eq_true, Bool.not_true, Bool.not_false, decide_eq_true_eq, Nat.reduceSub, Nat.reduceAdd, List.append_assoc, tChain, tDIn, tDNotIn, sDDel, tAug, ipI, rInt1_int, rInt1_bl]
          exact q nl _ H4 nnl0 hnl (by simp) (nameK_ok cl clow sz6 apz fun k hk => (hdk k hk).2) (k1.trans k14)
end
end My

set_option Elab.async false
set_option linter.all false
set_option maxRecDepth 100000
set_option maxHeartbeats 4000000
namespace My
open PySem L2 NdefX StX
abbrev s_law_helds : Stmt := top 31
theorem sc_law_helds : FnScope ["_law_locks", "_law_helds_here", "_law_k", "_law_j"] ["_law_locks"] (defScope s_law_helds) := ⟨rfl, rfl, rfl, by decide +kernel, rfl, by decide +kernel, by decide +kernel⟩
abbrev s_law_entries : Stmt := top 32
theorem sc_law_entries : FnScope ["_law_locks", "_law_known", "_law_held", "_law_lock"] ["_law_locks"] (defScope s_law_entries) := ⟨rfl, rfl, rfl, by decide +kernel, rfl, by decide +kernel, by decide +kernel⟩
def onesR (k : Nat) : List Hd := (List.range k).map fun a => [a]
def rowR (k j : Nat) : List Hd := ((List.range j).filter fun b => decide (k < b)).map fun b => [k, b]
def twosR (n k : Nat) : List Hd := (List.range k).flatMap fun a => rowR a n
theorem hls_by0 : ∀ n, n < 4 → 1 ≤ n → ([[]] ++ onesR n) ++ twosR n n ++ (if n = 3 then [[0, 1, 2]] else []) = hls n := by decide +kernel
theorem rowR_succ {k j : Nat} (h : k < j) : rowR k (j + 1) = rowR k j ++ [[k, j]] := by
  unfold rowR
  rw [List.range_succ, List.filter_append, List.map_append]
  simp [h]
theorem rowR_zero {k : Nat} : rowR k (k + 1) = [] := by
  unfold rowR
  rw [List.map_eq_nil_iff, List.filter_eq_nil_iff]
  intro b hb
  have := List.mem_range.mp hb
  simp
  omega
theorem twos_succ {n k : Nat} : twosR n (k + 1) = twosR n k ++ rowR k n := by
  unfold twosR
  rw [List.range_succ, List.flatMap_append]
  simp
theorem rowR_le (k j : Nat) : (rowR k j).length ≤ j := by
  unfold rowR
  rw [List.length_map]
  have := List.length_filter_le (fun b => decide (k < b)) (List.range j)
  rwa [List.length_range] at this
theorem twos_le (n k : Nat) : (twosR n k).length ≤ k * n := by
  induction k with
  | zero => simp [twosR]
  | succ k ih =>
    rw [twos_succ, List.length_append, Nat.succ_mul]
    have := rowR_le k n
    omega
section
variable {P : Program} {w : World} {K : PySem.W.Frag} {mg : Str → Option Value} {base : Heap} {tL t3 : Tok} {RC : Addr}
theorem ixA {zs : List Str} {H : Hp} {a : Addr} {r : Nat} {Q : VK} (ha : LkAt K H a zs) (hr : r < zs.length) (q : Q (.str (nmL zs r)) H) : rIx K (.ref a) (.int (r : Nat)) H Q := by
  have e : (zs.map V.str)[r]? = some (.str (nmL zs r)) := by rw [List.getElem?_map, nm_at hr]; rfl
  rcases ha with h | h
  · exact .inl ⟨a, _, _, _, rfl, rfl, h, atI_nat e, q⟩
  · exact .inr (.inl ⟨a, _, _, _, rfl, rfl, h, atI_nat e, q⟩)
def spLHelds (K : PySem.W.Frag) : Sp := fun vs H Q _ => ∃ (a : Addr) (zs : List Str), vs = [.ref a] ∧ LkOk zs ∧ LkAt K H a zs ∧ ∀ l us H', H l = none → H' l = some (.lst us) → Rw (HT zs H') us (hls zs.length) → Kp [] H H' → Q (.ref l) H'
theorem ok_law_helds {f : Addr} {fd : FuncData} (D : Df K mg "_law_helds" s_law_helds ["_law_locks"] f fd) (T : BtG mg) : FnOk P w K mg base CX0 1 f fd ["_law_locks"] (spLHelds K) := by
  refine D.F.ok sc_law_helds (fun vs H Q E h => ?_) (fun cdv A outer s H vs Q E hr h => ?_)
  · obtain ⟨_, _, rfl, _⟩ := h
    rfl
  · obtain ⟨a, zs, rfl, L, ha, q⟩ := h
    refine ⟨_, (pss_cons (ps_set (i := 1) sc_law_helds.nd rfl (Or.inl rfl) (pe_lst (pa_cons (pe_tup pa_nil) pa_nil)))
      (pss_cons (ps_for PassesOwn.never rfl (pi_range1 rfl T.b_range (pa_cons (pe_callB (id := "len") (r := Evl.rLenS K) call_len_seq (by rfl) T.b_len PySem.boot_len (pa_cons (pv 0) pa_nil)) pa_nil)) (pg_name (i := 2) sc_law_helds.nd rfl (Or.inl rfl)) (pss_one (ps_expr (pe_bm PySem.F.plainAttrs_list PySem.F.slot_list_append PySem.F.type_list_append mt_append (pv 1) (pa_cons (pe_tup (pa_cons (pe_ix (r := rIx K) ix_seq (pv 0) (pv 2) (fun _ _ => rfl)) pa_nil)) pa_nil)))))
      (pss_cons (ps_for PassesOwn.never rfl (pi_range1 rfl T.b_range (pa_cons (pe_callB (id := "len") (r := Evl.rLenS K) call_len_seq (by rfl) T.b_len PySem.boot_len (pa_cons (pv 0) pa_nil)) pa_nil)) (pg_name (i := 2) sc_law_helds.nd rfl (Or.inl rfl)) (pss_one (ps_for PassesOwn.never rfl (pi_range2 rfl T.b_range (pa_cons (pe_op op_add (pv 2) pe_int) (pa_cons (pe_callB (id := "len") (r := Evl.rLenS K) call_len_seq (by rfl) T.b_len PySem.boot_len (pa_cons (pv 0) pa_nil)) pa_nil))) (pg_name (i := 3) sc_law_helds.nd rfl (Or.inl rfl)) (pss_one (ps_expr (pe_bm PySem.F.plainAttrs_list PySem.F.slot_list_append PySem.F.type_list_append mt_append (pv 1) (pa_cons (pe_tup (pa_cons (pe_ix (r := rIx K) ix_seq (pv 0) (pv 2) (fun _ _ => rfl)) (pa_cons (pe_ix (r := rIx K) ix_seq (pv 0) (pv 3) (fun _ _ => rfl)) pa_nil))) pa_nil)))))))
      (pss_cons (ps_if (pt_cmpR op_eq (pe_callB (id := "len") (r := Evl.rLenS K) call_len_seq (by rfl) T.b_len PySem.boot_len (pa_cons (pv 0) pa_nil)) pe_int (nomark _)) (pss_one (ps_expr (pe_bm PySem.F.plainAttrs_list PySem.F.slot_list_append PySem.F.type_list_append mt_append (pv 1) (pa_cons (pe_tup (pa_cons (pe_ix (r := rIx K) ix_seq (pv 0) pe_int (fun _ _ => rfl)) (pa_cons (pe_ix (r := rIx K) ix_seq (pv 0) pe_int (fun _ _ => rfl)) (pa_cons (pe_ix (r := rIx K) ix_seq (pv 0) pe_int (fun _ _ => rfl)) pa_nil)))) pa_nil)))) pss_nil)
      (pss_one (ps_ret (pv 1))))))), ?_⟩
    have n1 := L.pos
    have n3 := L.le
    try simp (maxSteps := 1000000) only [tSeq, tIfS, tTest, tOp, tUn, tCB, tCons, tNil, tVar, tC, rI0, rI, rU, rEq, rNe, tRet, tRetN, tAsg, gName, gSub, tBM, tBM0, tNext, tB, tNot, tAnd, tOr, tIf, tCall, tDrop, tBreak, tCont, L2.start, tDGet, sDPut, tTup, tLst, tDNewK, tRevL, rCat, rAppend, rPop, rSetL, tAndV, tOrV, tNotV, tSl, tPart, tNoPart, tM1, gTup, gCons, gNil, cxK, cxnK, List.map_cons, List.map_nil, List.length_cons, List.length_nil, List.replicate, List.cons_append, List.nil_append, List.append_nil, List.set_cons_zero, List.set_cons_succ, List.getElem?_cons_zero, List.getElem?_cons_succ, Option.some.injEq, V.ref.injEq, V.int.injEq, V.str.injEq, V.bl.injEq, V.ty.injEq, exists_eq_left', exists_eq_left, exists_and_left, List.cons.injEq, and_true, true_and, sc_ii, sc_ss, sc_bb, sc_ni, sc_in, sc_is, sc_si, sc_nn, decide_true, decide_false, reduceCtorEq, Bool.false_eq_true, if_true, if_false, ite_true, ite_false, exists_const, eq_self, false_and, and_false, or_false, false_or, exists_false, Evl.rLenS, rSum, wipe, tYes, exists_eq, exists_eq', rIxL, rIxT, rIxS, exists_and_right, gt_iff_lt, not_true_eq_false, not_false_eq_true, Bool.not_true, Bool.not_false, decide_eq_true_eq, Nat.reduceSub, Nat.reduceAdd, List.append_assoc, tChain, tDIn, tDNotIn, sDDel, tAug, ipI, rInt1_int, rInt1_bl]
    refine ⟨Nat.zero_le _, fun e0 ne0 => ⟨by rw [sizeLine_eq]; decide, fun p np => ?_⟩⟩
    have k0 := (Kp.new ne0 : Kp [] H (upd H e0 (.tup [])))
    have k1 := k0.trans (Kp.new np (o := .lst [.ref e0]))
    have he : HT zs (upd (upd H e0 (.tup [])) p (.lst [.ref e0])) (.ref e0) [] := HT.of ((Kp.new np (S := []) (o := .lst [.ref e0])) _ _ not0 upd_same)
    have hp : (upd (upd H e0 (.tup [])) p (.lst [.ref e0])) p = some (.lst [.ref e0]) := upd_same
    have np0 : H p = none := k0.free0 np
    generalize upd (upd H e0 (.tup [])) p (.lst [.ref e0]) = H1 at k1 he hp ⊢
    have zV : ∀ r, r < zs.length → atI (zs.map V.str) ((r : Nat) : Int) = some (.str (nmL zs r)) := fun r hr => atI_nat (by rw [List.getElem?_map, nm_at hr]; rfl)
    have push : ∀ (H' : Hp) (us : List V) (F : List Hd) (v : V) (h : Hd), H' p = some (.lst us) → Rw (HT zs H') us F → HT zs H' v h → F.length ≤ 100 → us.length < sizeLine ∧ Rw (HT zs (upd H' p (.lst (us ++ [v])))) (us ++ [v]) (F ++ [h]) := fun H' us F v h hp hu hv hF => by
      have tp : Tp H' (upd H' p (.lst (us ++ [v]))) := (Tp.refl _).putL hp
      exact ⟨smallL (by rw [hu.len]; omega), (hu.mono fun _ _ z => HT.tp z tp).snoc (hv.tp tp)⟩
    refine forN zs.length (by omega) (fun j σ H' => ∃ (us : List V) (c2 : Option V), σ = [some (.ref a), some (.ref p), c2, none] ∧ H' p = some (.lst us) ∧ Rw (HT zs H') us ([[]] ++ onesR j) ∧ Kp [] H H') (fun R q' => ?_) ⟨_, _, rfl, hp, .cons he .nil, k1⟩ ?_ ?_
    · try simp (maxSteps := 1000000) only [tSeq, tIfS, tTest, tOp, tUn, tCB, tCons, tNil, tVar, tC, rI0, rI, rU, rEq, rNe, tRet, tRetN, tAsg, gName, gSub, tBM, tBM0, tNext, tB, tNot, tAnd, tOr, tIf, tCall, tDrop, tBreak, tCont, L2.start, tDGet, sDPut, tTup, tLst, tDNewK, tRevL, rCat, rAppend, rPop, rSetL, tAndV, tOrV, tNotV, tSl, tPart, tNoPart, tM1, gTup, gCons, gNil, cxK, cxnK, List.map_cons, List.map_nil, List.length_cons, List.length_nil, List.replicate, List.cons_append, List.nil_append, List.append_nil, List.set_cons_zero, List.set_cons_succ, List.getElem?_cons_zero, List.getElem?_cons_succ, Option.some.injEq, V.ref.injEq, V.int.injEq, V.str.injEq, V.bl.injEq, V.ty.injEq, exists_eq_left', exists_eq_left, exists_and_left, List.cons.injEq, and_true, true_and, sc_ii, sc_ss, sc_bb, sc_ni, sc_in, sc_is, sc_si, sc_nn, decide_true, decide_false, reduceCtorEq, Bool.false_eq_true, if_true, if_false, ite_true, ite_false, exists_const, eq_self, false_and, and_false, or_false, false_or, exists_false, Evl.rLenS, rSum, wipe, tYes, exists_eq, exists_eq', rIxL, rIxT, rIxS, exists_and_right, gt_iff_lt, not_true_eq_false, not_false_eq_true, Bool.not_true, Bool.not_false, decide_eq_true_eq, Nat.reduceSub, Nat.reduceAdd, List.append_assoc, tChain, tDIn, tDNotIn, sDDel, tAug, ipI, rInt1_int, rInt1_bl]
      refine ⟨_, LkAt.kp ha k1, ?_⟩
      rw [List.length_map]
      exact q'
    · rintro j σ H2 hj ⟨us, c2, rfl, hp2, hu2, k2⟩
      try simp (maxSteps := 1000000) only [tSeq, tIfS, tTest, tOp, tUn, tCB, tCons, tNil, tVar, tC, rI0, rI, rU, rEq, rNe, tRet, tRetN, tAsg, gName, gSub, tBM, tBM0, tNext, tB, tNot, tAnd, tOr, tIf, tCall, tDrop, tBreak, tCont, L2.start, tDGet, sDPut, tTup, tLst, tDNewK, tRevL, rCat, rAppend, rPop, rSetL, tAndV, tOrV, tNotV, tSl, tPart, tNoPart, tM1, gTup, gCons, gNil, cxK, cxnK, List.map_cons, List.map_nil, List.length_cons, List.length_nil, List.replicate, List.cons_append, List.nil_append, List.append_nil, List.set_cons_zero, List.set_cons_succ, List.getElem?_cons_zero, List.getElem?_cons_succ, Option.some.injEq, V.ref.injEq, V.int.injEq, V.str.injEq, V.bl.injEq, V.ty.injEq, exists_eq_left', exists_eq_left, exists_and_left, List.cons.injEq, and_true, true_and, sc_ii, sc_ss, sc_bb, sc_ni, sc_in, sc_is, sc_si, sc_nn, decide_true, decide_false, reduceCtorEq, Bool.false_eq_true, if_true, if_false, ite_true, ite_false, exists_const, eq_self, false_and, and_false, or_false, false_or, exists_false, Evl.rLenS, rSum, wipe, tYes, exists_eq, exists_eq', rIxL, rIxT, rIxS, exists_and_right, gt_iff_lt, not_true_eq_false, not_false_eq_true, Bool.not_true, Bool.not_false, decide_eq_true_eq, Nat.reduceSub, Nat.reduceAdd, List.append_assoc, tChain, tDIn, tDNotIn, sDDel, tAug, ipI, rInt1_int, rInt1_bl]
      refine ⟨.inl ⟨rfl, _, sq_l hp2⟩, ixA (LkAt.kp ha k2) hj ⟨by rw [sizeLine_eq]; decide, fun t nt => ?_⟩⟩
      have kt := (Kp.new nt : Kp [] H2 (upd H2 t (.tup [.str (nmL zs j)])))
      have ht : HT zs (upd H2 t (.tup [.str (nmL zs j)])) (.ref t) [j] := HT.of upd_same
      generalize upd H2 t (.tup [.str (nmL zs j)]) = H3 at kt ht ⊢
      have hp3 := kt _ _ not0 hp2
      obtain ⟨sl, hr3⟩ := push H3 us _ _ _ hp3 (hu2.mono fun _ _ z => HT.tp z kt.tps) ht (by simp [onesR]; omega)
      refine ⟨us, hp3, sl, us ++ [.ref t], upd_same, ?_, (k2.trans kt).wr np0⟩
      have : [] :: onesR (j + 1) = ([[]] ++ onesR j) ++ [[j]] := by
        unfold onesR
        rw [List.range_succ, List.map_append, List.append_assoc]
        rfl
      rw [this]
      exact hr3
    · rintro σ H2 ⟨us, c2, rfl, hp2, hu2, k2⟩
      try simp (maxSteps := 1000000) only [tSeq, tIfS, tTest, tOp, tUn, tCB, tCons, tNil, tVar, tC, rI0, rI, rU, rEq, rNe, tRet, tRetN, tAsg, gName, gSub, tBM, tBM0, tNext, tB, tNot, tAnd, tOr, tIf, tCall, tDrop, tBreak, tCont, L2.start, tDGet, sDPut, tTup, tLst, tDNewK, tRevL, rCat, rAppend, rPop, rSetL, tAndV, tOrV, tNotV, tSl, tPart, tNoPart, tM1, gTup, gCons, gNil, cxK, cxnK, List.map_cons, List.map_nil, List.length_cons, List.length_nil, List.replicate, List.cons_append, List.nil_append, List.append_nil, List.set_cons_zero, List.set_cons_succ, List.getElem?_cons_zero, List.getElem?_cons_succ, Option.some.injEq, V.ref.injEq, V.int.injEq, V.str.injEq, V.bl.injEq, V.ty.injEq, exists_eq_left', exists_eq_left, exists_and_left, List.cons.injEq, and_true, true_and, sc_ii, sc_ss, sc_bb, sc_ni, sc_in, sc_is, sc_si, sc_nn, decide_true, decide_false, reduceCtorEq, Bool.false_eq_true, if_true, if_false, ite_true, ite_false, exists_const, eq_self, false_and, and_false, or_false, false_or, exists_false, Evl.rLenS, rSum, wipe, tYes, exists_eq, exists_eq', rIxL, rIxT, rIxS, exists_and_right, gt_iff_lt, not_true_eq_false, not_false_eq_true, Bool.not_true, Bool.not_false, decide_eq_true_eq, Nat.reduceSub, Nat.reduceAdd, List.append_assoc, tChain, tDIn, tDNotIn, sDDel, tAug, ipI, rInt1_int, rInt1_bl]
      refine forN zs.length (by omega) (fun j σ H' => ∃ (us : List V) (c2 c3 : Option V), σ = [some (.ref a), some (.ref p), c2, c3] ∧ H' p = some (.lst us) ∧ Rw (HT zs H') us (([[]] ++ onesR zs.length) ++ twosR zs.length j) ∧ Kp [] H H') (fun R q' => ?_) ⟨us, _, _, rfl, hp2, by rw [show twosR zs.length 0 = [] from rfl, List.append_nil]; exact hu2, k2⟩ ?_ ?_
      · try simp (maxSteps := 1000000) only [tSeq, tIfS, tTest, tOp, tUn, tCB, tCons, tNil, tVar, tC, rI0, rI, rU, rEq, rNe, tRet, tRetN, tAsg, gName, gSub, tBM, tBM0, tNext, tB, tNot, tAnd, tOr, tIf, tCall, tDrop, tBreak, tCont, L2.start, tDGet, sDPut, tTup, tLst, tDNewK, tRevL, rCat, rAppend, rPop, rSetL, tAndV, tOrV, tNotV, tSl, tPart, tNoPart, tM1, gTup, gCons, gNil, cxK, cxnK, List.map_cons, List.map_nil, List.length_cons, List.length_nil, List.replicate, List.cons_append, List.nil_append, List.append_nil, List.set_cons_zero, List.set_cons_succ, List.getElem?_cons_zero, List.getElem?_cons_succ, Option.some.injEq, V.ref.injEq, V.int.injEq, V.str.injEq, V.bl.injEq, V.ty.injEq, exists_eq_left', exists_eq_left, exists_and_left, List.cons.injEq, and_true, true_and, sc_ii, sc_ss, sc_bb, sc_ni, sc_in, sc_is, sc_si, sc_nn, decide_true, decide_false, reduceCtorEq, Bool.false_eq_true, if_true, if_false, ite_true, ite_false, exists_const, eq_self, false_and, and_false, or_false, false_or, exists_false, Evl.rLenS, rSum, wipe, tYes, exists_eq, exists_eq', rIxL, rIxT, rIxS, exists_and_right, gt_iff_lt, not_true_eq_false, not_false_eq_true, Bool.not_true, Bool.not_false, decide_eq_true_eq, Nat.reduceSub, Nat.reduceAdd, List.append_assoc, tChain, tDIn, tDNotIn, sDDel, tAug, ipI, rInt1_int, rInt1_bl]
        refine ⟨_, LkAt.kp ha k2, ?_⟩
        rw [List.length_map]
        exact q'
      · rintro j σ H3 hj ⟨us3, c2, c3, rfl, hp3, hu3, k3⟩
        try simp (maxSteps := 1000000) only [tSeq, tIfS, tTest, tOp, tUn, tCB, tCons, tNil, tVar, tC, rI0, rI, rU, rEq, rNe, tRet, tRetN, tAsg, gName, gSub, tBM, tBM0, tNext, tB, tNot, tAnd, tOr, tIf, tCall, tDrop, tBreak, tCont, L2.start, tDGet, sDPut, tTup, tLst, tDNewK, tRevL, rCat, rAppend, rPop, rSetL, tAndV, tOrV, tNotV, tSl, tPart, tNoPart, tM1, gTup, gCons, gNil, cxK, cxnK, List.map_cons, List.map_nil, List.length_cons, List.length_nil, List.replicate, List.cons_append, List.nil_append, List.append_nil, List.set_cons_zero, List.set_cons_succ, List.getElem?_cons_zero, List.getElem?_cons_succ, Option.some.injEq, V.ref.injEq, V.int.injEq, V.str.injEq, V.bl.injEq, V.ty.injEq, exists_eq_left', exists_eq_left, exists_and_left, List.cons.injEq, and_true, true_and, sc_ii, sc_ss, sc_bb, sc_ni, sc_in, sc_is, sc_si, sc_nn, decide_true, decide_false, reduceCtorEq, Bool.false_eq_true, if_true, if_false, ite_true, ite_false, exists_const, eq_self, false_and, and_false, or_false, false_or, exists_false, Evl.rLenS, rSum, wipe, tYes, exists_eq, exists_eq', rIxL, rIxT, rIxS, exists_and_right, gt_iff_lt, not_true_eq_false, not_false_eq_true, Bool.not_true, Bool.not_false, decide_eq_true_eq, Nat.reduceSub, Nat.reduceAdd, List.append_assoc, tChain, tDIn, tDNotIn, sDDel, tAug, ipI, rInt1_int, rInt1_bl]
        refine forN2 (j + 1) zs.length (by omega) (by omega) (fun i σ H' => ∃ (us : List V) (c3 : Option V), σ = [some (.ref a), some (.ref p), some (.int (j : Nat)), c3] ∧ H' p = some (.lst us) ∧ Rw (HT zs H') us ((([[]] ++ onesR zs.length) ++ twosR zs.length j) ++ rowR j (j + 1 + i)) ∧ Kp [] H H') (fun R q' => ?_) (fun H4 k4 => ⟨us3, c3, rfl, k4 _ _ not0 hp3, by rw [rowR_zero, List.append_nil]; exact hu3.mono fun _ _ z => HT.tp z k4.tps, k3.trans k4⟩) ?_ ?_
        · try simp (maxSteps := 1000000) only [tSeq, tIfS, tTest, tOp, tUn, tCB, tCons, tNil, tVar, tC, rI0, rI, rU, rEq, rNe, tRet, tRetN, tAsg, gName, gSub, tBM, tBM0, tNext, tB, tNot, tAnd, tOr, tIf, tCall, tDrop, tBreak, tCont, L2.start, tDGet, sDPut, tTup, tLst, tDNewK, tRevL, rCat, rAppend, rPop, rSetL, tAndV, tOrV, tNotV, tSl, tPart, tNoPart, tM1, gTup, gCons, gNil, cxK, cxnK, List.map_cons, List.map_nil, List.length_cons, List.length_nil, List.replicate, List.cons_append, List.nil_append, List.append_nil, List.set_cons_zero, List.set_cons_succ, List.getElem?_cons_zero, List.getElem?_cons_succ, Option.some.injEq, V.ref.injEq, V.int.injEq, V.str.injEq, V.bl.injEq, V.ty.injEq, exists_eq_left', exists_eq_left, exists_and_left, List.cons.injEq, and_true, true_and, sc_ii, sc_ss, sc_bb, sc_ni, sc_in, sc_is, sc_si, sc_nn, decide_true, decide_false, reduceCtorEq, Bool.false_eq_true, if_true, if_false, ite_true, ite_false, exists_const, eq_self, false_and, and_false, or_false, false_or, exists_false, Evl.rLenS, rSum, wipe, tYes, exists_eq, exists_eq', rIxL, rIxT, rIxS, exists_and_right, gt_iff_lt, not_true_eq_false, not_false_eq_true, Bool.not_true, Bool.not_false, decide_eq_true_eq, Nat.reduceSub, Nat.reduceAdd, List.append_assoc, tChain, tDIn, tDNotIn, sDDel, tAug, ipI, rInt1_int, rInt1_bl]
          refine ⟨_, LkAt.kp ha k3, ?_⟩
          rw [List.length_map]
          exact q' _ (Kp.refl _ _)
        · rintro i σ H4 hi ⟨us4, c4, rfl, hp4, hu4, k4⟩
          try simp (maxSteps := 1000000) only [tSeq, tIfS, tTest, tOp, tUn, tCB, tCons, tNil, tVar, tC, rI0, rI, rU, rEq, rNe, tRet, tRetN, tAsg, gName, gSub, tBM, tBM0, tNext, tB, tNot, tAnd, tOr, tIf, tCall, tDrop, tBreak, tCont, L2.start, tDGet, sDPut, tTup, tLst, tDNewK, tRevL, rCat, rAppend, rPop, rSetL, tAndV, tOrV, tNotV, tSl, tPart, tNoPart, tM1, gTup, gCons, gNil, cxK, cxnK, List.map_cons, List.map_nil, List.length_cons, List.length_nil, List.replicate, List.cons_append, List.nil_append, List.append_nil, List.set_cons_zero, List.set_cons_succ, List.getElem?_cons_zero, List.getElem?_cons_succ, Option.some.injEq, V.ref.injEq, V.int.injEq, V.str.injEq, V.bl.injEq, V.ty.injEq, exists_eq_left', exists_eq_left, exists_and_left, List.cons.injEq, and_true, true_and, sc_ii, sc_ss, sc_bb, sc_ni, sc_in, sc_is, sc_si, sc_nn, decide_true, decide_false, reduceCtorEq, Bool.false_eq_true, if_true, if_false, ite_true, ite_false, exists_const, eq_self, false_and, and_false, or_false, false_or, exists_false, Evl.rLenS, rSum, wipe, tYes, exists_eq, exists_eq', rIxL, rIxT, rIxS, exists_and_right, gt_iff_lt, not_true_eq_false, not_false_eq_true, Bool.not_true, Bool.not_false, decide_eq_true_eq, Nat.reduceSub, Nat.reduceAdd, List.append_assoc, tChain, tDIn, tDNotIn, sDDel, tAug, ipI, rInt1_int, rInt1_bl]
          have lj : (rowR j (j + 1 + i)).length ≤ 4 := Nat.le_trans (rowR_le _ _) (by omega)
          have lt : (twosR zs.length j).length ≤ 9 := Nat.le_trans (twos_le _ _) (Nat.le_trans (Nat.mul_le_mul (Nat.le_of_lt hj) n3) (by omega))
          have l1 : (onesR zs.length).length ≤ 3 := by simp [onesR]; omega
          refine ⟨.inl ⟨rfl, _, sq_l hp4⟩, ixA (LkAt.kp ha k4) hj (ixA (LkAt.kp ha k4) hi ⟨by rw [sizeLine_eq]; decide, fun t nt => ?_⟩)⟩
          have kt := (Kp.new nt : Kp [] H4 (upd H4 t (.tup [.str (nmL zs j), .str (nmL zs (j + 1 + i))])))
          have ht : HT zs (upd H4 t (.tup [.str (nmL zs j), .str (nmL zs (j + 1 + i))])) (.ref t) [j, j + 1 + i] := HT.of upd_same
          generalize upd H4 t (.tup [.str (nmL zs j), .str (nmL zs (j + 1 + i))]) = H5 at kt ht ⊢
          have hp5 := kt _ _ not0 hp4
          obtain ⟨sl, hr5⟩ := push H5 us4 _ _ _ hp5 (hu4.mono fun _ _ z => HT.tp z kt.tps) ht (by simp only [List.length_append, List.length_cons, List.length_nil]; omega)
          refine ⟨us4, hp5, sl, us4 ++ [.ref t], upd_same, ?_, (k4.trans kt).wr np0⟩
          have : j + 1 + (i + 1) = (j + 1 + i) + 1 := by omega
          rw [this, rowR_succ (by omega)]
          simpa only [List.append_assoc, List.cons_append, List.nil_append] using hr5
        · rintro σ H4 ⟨us4, c4, rfl, hp4, hu4, k4⟩
          try simp (maxSteps := 1000000) only [tSeq, tIfS, tTest, tOp, tUn, tCB, tCons, tNil, tVar, tC, rI0, rI, rU, rEq, rNe, tRet, tRetN, tAsg, gName, gSub, tBM, tBM0, tNext, tB, tNot, tAnd, tOr, tIf, tCall, tDrop, tBreak, tCont, L2.start, tDGet, sDPut, tTup, tLst, tDNewK, tRevL, rCat, rAppend, rPop, rSetL, tAndV, tOrV, tNotV, tSl, tPart, tNoPart, tM1, gTup, gCons, gNil, cxK, cxnK, List.map_cons, List.map_nil, List.length_cons, List.length_nil, List.replicate, List.cons_append, List.nil_append, List.append_nil, List.set_cons_zero, List.set_cons_succ, List.getElem?_cons_zero, List.getElem?_cons_succ, Option.some.injEq, V.ref.injEq, V.int.injEq, V.str.injEq, V.bl.injEq, V.ty.injEq, exists_eq_left', exists_eq_left, exists_and_left, List.cons.injEq, and_true, true_and, sc_ii, sc_ss, sc_bb, sc_ni, sc_in, sc_is, sc_si, sc_nn, decide_true, decide_false, reduceCtorEq, Bool.false_eq_true, if_true, if_false, ite_true, ite_false, exists_const, eq_self, false_and, and_false, or_false, false_or, exists_false, Evl.rLenS, rSum, wipe, tYes, exists_eq, exists_eq', rIxL, rIxT, rIxS, exists_and_right, gt_iff_lt, not_true_eq_false, not_false_eq_true, Bool.not_true, Bool.not_false, decide_eq_true_eq, Nat.reduceSub, Nat.reduceAdd, List.append_assoc, tChain, tDIn, tDNotIn, sDDel, tAug, ipI, rInt1_int, rInt1_bl]
          refine ⟨us4, hp4, ?_, k4⟩
          have : j + 1 + (zs.length - (j + 1)) = zs.length := by omega
          rw [this] at hu4
          rw [twos_succ]
          rw [List.append_assoc] at hu4
          exact hu4
      · rintro σ H3 ⟨us3, c2, c3, rfl, hp3, hu3, k3⟩
        try simp (maxSteps := 1000000) only [tSeq, tIfS, tTest, tOp, tUn, tCB, tCons, tNil, tVar, tC, rI0, rI, rU, rEq, rNe, tRet, tRetN, tAsg, gName, gSub, tBM, tBM0, tNext, tB, tNot, tAnd, tOr, tIf, tCall, tDrop, tBreak, tCont, L2.start, tDGet, sDPut, tTup, tLst, tDNewK, tRevL, rCat, rAppend, rPop, rSetL, tAndV, tOrV, tNotV, tSl, tPart, tNoPart, tM1, gTup, gCons, gNil, cxK, cxnK, List.map_cons, List.map_nil, List.length_cons, List.length_nil, List.replicate, List.cons_append, List.nil_append, List.append_nil, List.set_cons_zero, List.set_cons_succ, List.getElem?_cons_zero, List.getElem?_cons_succ, Option.some.injEq, V.ref.injEq, V.int.injEq, V.str.injEq, V.bl.injEq, V.ty.injEq, exists_eq_left', exists_eq_left, exists_and_left, List.cons.injEq, and_true, true_and, sc_ii, sc_ss, sc_bb, sc_ni, sc_in, sc_is, sc_si, sc_nn, decide_true, decide_false, reduceCtorEq, Bool.false_eq_true, if_true, if_false, ite_true, ite_false, exists_const, eq_self, false_and, and_false, or_false, false_or, exists_false, Evl.rLenS, rSum, wipe, tYes, exists_eq, exists_eq', rIxL, rIxT, rIxS, exists_and_right, gt_iff_lt, not_true_eq_false, not_false_eq_true, Bool.not_true, Bool.not_false, decide_eq_true_eq, Nat.reduceSub, Nat.reduceAdd, List.append_assoc, tChain, tDIn, tDNotIn, sDDel, tAug, ipI, rInt1_int, rInt1_bl]
        refine ⟨_, LkAt.kp ha k3, ?_⟩
        rw [List.length_map]
        have hb := hls_by0 zs.length (by omega) n1
        have lt : (twosR zs.length zs.length).length ≤ 9 := Nat.le_trans (twos_le _ _) (Nat.le_trans (Nat.mul_le_mul n3 n3) (by omega))
        have l1 : (onesR zs.length).length ≤ 3 := by simp [onesR]; omega
        split
        · next e3 =>
          have e3' : zs.length = 3 := by omega
          refine ⟨.inl ⟨rfl, _, sq_l hp3⟩, ixA (r := 0) (LkAt.kp ha k3) (by omega) (ixA (r := 1) (LkAt.kp ha k3) (by omega) (ixA (r := 2) (LkAt.kp ha k3) (by omega) ⟨by rw [sizeLine_eq]; decide, fun t nt => ?_⟩))⟩
          have kt := (Kp.new nt : Kp [] H3 (upd H3 t (.tup [.str (nmL zs 0), .str (nmL zs 1), .str (nmL zs 2)])))
          have ht : HT zs (upd H3 t (.tup [.str (nmL zs 0), .str (nmL zs 1), .str (nmL zs 2)])) (.ref t) [0, 1, 2] := HT.of upd_same
          generalize upd H3 t (.tup [.str (nmL zs 0), .str (nmL zs 1), .str (nmL zs 2)]) = H5 at kt ht ⊢
          have hp5 := kt _ _ not0 hp3
          obtain ⟨sl, hr5⟩ := push H5 us3 _ _ _ hp5 (hu3.mono fun _ _ z => HT.tp z kt.tps) ht (by simp only [List.length_append, List.length_cons, List.length_nil]; omega)
          refine ⟨us3, hp5, sl, q _ _ _ np0 upd_same ?_ ((k3.trans kt).wr np0)⟩
          rw [if_pos e3'] at hb
          rw [← hb]
          exact hr5
        · next e3 =>
          rw [if_neg (by omega), List.append_nil] at hb
          exact q _ _ _ np0 hp3 (by rw [← hb]; exact hu3) k3
end
end My

set_option Elab.async false
set_option linter.all false
set_option maxRecDepth 100000
set_option maxHeartbeats 4000000
namespace My
open PySem L2 NdefX StX
theorem forSA {K : PySem.W.Frag} {g : TG} {tb : L2.TS} {D : Ends} {σ : L2.St} {H H0 : Hp} {a : Addr} {xs : List V} {i : Nat} (Pv : Nat → L2.St → Hp → Prop) (hσ : σ[i]? = some (some (.ref a))) (ha : SqAny K H0 a xs) (h0 : Pv 0 σ H) (hk : ∀ j σ' H', Pv j σ' H' → Kp [] H0 H')
    (hs : ∀ j x σ H, xs[j]? = some x → Pv j σ H → g x σ H fun σ2 H2 => tb { D with nx := Pv (j + 1), ct := Pv (j + 1), bk := D.nx } σ2 H2) (hd : ∀ σ H, Pv xs.length σ H → D.nx σ H) : tFor (iSeq K (tVar i)) g tb D σ H := by
  rcases ha with h | h
  · exact ⟨_, hσ, a, rfl, .inl ⟨⟨xs, (hk _ _ _ h0).ls not0 h⟩, for_list Pv h0 (fun j σ' H' _ p => (hk j σ' H' p).ls not0 h) hs hd⟩⟩
  · exact ⟨_, hσ, a, rfl, .inr ⟨⟨xs, (hk _ _ _ h0).tp not0 h⟩, for_tup Pv h0 (fun j σ' H' _ p => (hk j σ' H' p).tp not0 h) hs hd⟩⟩
theorem take_one {α : Type} {l : List α} {j : Nat} {x : α} (h : l[j]? = some x) : l.take (j + 1) = l.take j ++ [x] := by
  rw [List.take_add_one, h]
  rfl
def entsI (h : Hd) (i : Nat) : List En := ((List.range i).filter fun r => !decide (r ∈ h)).map fun r => (h, r)
theorem entsI_in {h : Hd} {i : Nat} (e : i ∈ h) : entsI h (i + 1) = entsI h i := by
  unfold entsI
  rw [List.range_succ, List.filter_append, List.map_append]
  simp [e]
theorem entsI_nin {h : Hd} {i : Nat} (e : i ∉ h) : entsI h (i + 1) = entsI h i ++ [(h, i)] := by
  unfold entsI
  rw [List.range_succ, List.filter_append, List.map_append]
  simp [e]
theorem entsI_le (h : Hd) (i : Nat) : (entsI h i).length ≤ i := by
  unfold entsI
  rw [List.length_map]
  have := List.length_filter_le (fun r => !decide (r ∈ h)) (List.range i)
  rwa [List.length_range] at this
def okT (n : Nat) : Bool := (List.range 9).all fun j => decide ((((hls n).take j).flatMap (entsOf n)).length ≤ 12) && decide ((hls n).length ≤ 8)
theorem okT0 : ∀ n, n < 4 → okT n = true := by decide +kernel
theorem okT_le {n j : Nat} (h : n < 4) (hj : j ≤ 8) : (((hls n).take j).flatMap (entsOf n)).length ≤ 12 ∧ (hls n).length ≤ 8 := by
  have e := okT0 n h
  unfold okT at e
  rw [List.all_eq_true] at e
  have := e j (List.mem_range.mpr (by omega))
  rw [Bool.and_eq_true, decide_eq_true_eq, decide_eq_true_eq] at this
  exact this
section
variable {P : Program} {w : World} {K : PySem.W.Frag} {mg : Str → Option Value} {base : Heap} {tL t3 : Tok} {RC : Addr}
def spLEnts (K : PySem.W.Frag) : Sp := fun vs H Q _ => ∃ (a : Addr) (zs : List Str), vs = [.ref a] ∧ LkOk zs ∧ LkAt K H a zs ∧ ∀ l us H', H l = none → H' l = some (.lst us) → Rw (ET zs H') us (ens zs.length) → Kp [] H H' → Q (.ref l) H'
theorem ok_law_entries {f : Addr} {fd : FuncData} (D : Df K mg "_law_entries" s_law_entries ["_law_locks"] f fd) (T : BtG mg) {f1 : Addr} {fd1 : FuncData} (D_law_helds : Df K mg "_law_helds" s_law_helds ["_law_locks"] f1 fd1) (G_law_helds : FnOk P w K mg base CX0 1 f1 fd1 ["_law_locks"] (spLHelds K)) : FnOk P w K mg base CX0 2 f fd ["_law_locks"] (spLEnts K) := by
  refine D.F.ok sc_law_entries (fun vs H Q E h => ?_) (fun cdv A outer s H vs Q E hr h => ?_)
  · obtain ⟨_, _, rfl, _⟩ := h
    rfl
  · obtain ⟨a, zs, rfl, L, ha, q⟩ := h
    refine ⟨_, (pss_cons (ps_set (i := 1) sc_law_entries.nd rfl (Or.inl rfl) (pe_lst pa_nil))
      (pss_cons (ps_for PassesOwn.never rfl (pi_list (pe_call G_law_helds (hr.mono (by decide)) rfl D_law_helds.g D_law_helds.F.kp D_law_helds.b .nil pass0 (pa_cons (pv 0) pa_nil))) (pg_name (i := 2) sc_law_entries.nd rfl (Or.inl rfl)) (pss_one (ps_for PassesOwn.never rfl (pi_seq (pv 0)) (pg_name (i := 3) sc_law_entries.nd rfl (Or.inl rfl)) (pss_one (ps_if (pt_cmpR op_notIn_seq (pv 3) (pv 2) (by rfl)) (pss_one (ps_expr (pe_bm PySem.F.plainAttrs_list PySem.F.slot_list_append PySem.F.type_list_append mt_append (pv 1) (pa_cons (pe_tup (pa_cons (pv 2) (pa_cons (pv 3) pa_nil))) pa_nil)))) pss_nil)))))
      (pss_one (ps_ret (pv 1))))), ?_⟩
    have n1 := L.pos
    have n3 := L.le
    have E := factE (n := zs.length) (by omega) n1
    try simp (maxSteps := 1000000) only [tSeq, tIfS, tTest, tOp, tUn, tCB, tCons, tNil, tVar, tC, rI0, rI, rU, rEq, rNe, tRet, tRetN, tAsg, gName, gSub, tBM, tBM0, tNext, tB, tNot, tAnd, tOr, tIf, tCall, tDrop, tBreak, tCont, L2.start, tDGet, sDPut, tTup, tLst, tDNewK, tRevL, rCat, rAppend, rPop, rSetL, tAndV, tOrV, tNotV, tSl, tPart, tNoPart, tM1, gTup, gCons, gNil, cxK, cxnK, List.map_cons, List.map_nil, List.length_cons, List.length_nil, List.replicate, List.cons_append, List.nil_append, List.append_nil, List.set_cons_zero, List.set_cons_succ, List.getElem?_cons_zero, List.getElem?_cons_succ, Option.some.injEq, V.ref.injEq, V.int.injEq, V.str.injEq, V.bl.injEq, V.ty.injEq, exists_eq_left', exists_eq_left, exists_and_left, List.cons.injEq, and_true, true_and, sc_ii, sc_ss, sc_bb, sc_ni, sc_in, sc_is, sc_si, sc_nn, decide_true, decide_false, reduceCtorEq, Bool.false_eq_true, if_true, if_false, ite_true, ite_false, exists_const, eq_self, false_and, and_false, or_false, false_or, exists_false, Evl.rLenS, rSum, wipe, tYes, exists_eq, exists_eq', rIxL, rIxT, rIxS, exists_and_right, gt_iff_lt, not_true_eq_false, not_false_eq_true, Bool.not_true, Bool.not_false, decide_eq_true_eq, Nat.reduceSub, Nat.reduceAdd, List.append_assoc, tChain, tDIn, tDNotIn, sDDel, tAug, ipI, rInt1_int, rInt1_bl]
    refine ⟨Nat.zero_le _, fun p np => ?_⟩
    have hp : (upd H p (.lst [])) p = some (.lst []) := upd_same
    have k0 := (Kp.new np : Kp [] H (upd H p (.lst [])))
    generalize upd H p (.lst []) = H1 at hp k0 ⊢
    refine forL_src ?_
    try simp (maxSteps := 1000000) only [tSeq, tIfS, tTest, tOp, tUn, tCB, tCons, tNil, tVar, tC, rI0, rI, rU, rEq, rNe, tRet, tRetN, tAsg, gName, gSub, tBM, tBM0, tNext, tB, tNot, tAnd, tOr, tIf, tCall, tDrop, tBreak, tCont, L2.start, tDGet, sDPut, tTup, tLst, tDNewK, tRevL, rCat, rAppend, rPop, rSetL, tAndV, tOrV, tNotV, tSl, tPart, tNoPart, tM1, gTup, gCons, gNil, cxK, cxnK, List.map_cons, List.map_nil, List.length_cons, List.length_nil, List.replicate, List.cons_append, List.nil_append, List.append_nil, List.set_cons_zero, List.set_cons_succ, List.getElem?_cons_zero, List.getElem?_cons_succ, Option.some.injEq, V.ref.injEq, V.int.injEq, V.str.injEq, V.bl.injEq, V.ty.injEq, exists_eq_left', exists_eq_left, exists_and_left, List.cons.injEq, and_true, true_and, sc_ii, sc_ss, sc_bb, sc_ni, sc_in, sc_is, sc_si, sc_nn, decide_true, decide_false, reduceCtorEq, Bool.false_eq_true, if_true, if_false, ite_true, ite_false, exists_const, eq_self, false_and, and_false, or_false, false_or, exists_false, Evl.rLenS, rSum, wipe, tYes, exists_eq, exists_eq', rIxL, rIxT, rIxS, exists_and_right, gt_iff_lt, not_true_eq_false, not_false_eq_true, Bool.not_true, Bool.not_false, decide_eq_true_eq, Nat.reduceSub, Nat.reduceAdd, List.append_assoc, tChain, tDIn, tDNotIn, sDDel, tAug, ipI, rInt1_int, rInt1_bl]
    refine ⟨a, zs, rfl, L, LkAt.kp ha k0, fun l us H2 nl hl hus k1 => ?_⟩
    have hp2 := k1 _ _ not0 hp
    have lp : l ≠ p := fun z => by rw [z, hp] at nl; cases nl
    refine forLC (fun j σ H' => ∃ (ws : List V) (c2 c3 : Option V), σ = [some (.ref a), some (.ref p), c2, c3] ∧ H' p = some (.lst ws) ∧ H' l = some (.lst us) ∧ Rw (ET zs H') ws (((hls zs.length).take j).flatMap (entsOf zs.length)) ∧ Tp H2 H' ∧ Kp [] H H') (sq_l hl) ⟨_, _, _, rfl, hp2, hl, .nil, Tp.refl _, k0.trans k1⟩ (fun j σ H' _ h => by obtain ⟨_, _, _, _, _, h, _⟩ := h; exact sq_l h) ?_ ?_
    · rintro j x σ H3 hj ⟨ws, c2, c3, rfl, hp3, hl3, hr3, t3, k3⟩
      obtain ⟨h, hh, hx⟩ := hus.get hj
      try simp (maxSteps := 1000000) only [tSeq, tIfS, tTest, tOp, tUn, tCB, tCons, tNil, tVar, tC, rI0, rI, rU, rEq, rNe, tRet, tRetN, tAsg, gName, gSub, tBM, tBM0, tNext, tB, tNot, tAnd, tOr, tIf, tCall, tDrop, tBreak, tCont, L2.start, tDGet, sDPut, tTup, tLst, tDNewK, tRevL, rCat, rAppend, rPop, rSetL, tAndV, tOrV, tNotV, tSl, tPart, tNoPart, tM1, gTup, gCons, gNil, cxK, cxnK, List.map_cons, List.map_nil, List.length_cons, List.length_nil, List.replicate, List.cons_append, List.nil_append, List.append_nil, List.set_cons_zero, List.set_cons_succ, List.getElem?_cons_zero, List.getElem?_cons_succ, Option.some.injEq, V.ref.injEq, V.int.injEq, V.str.injEq, V.bl.injEq, V.ty.injEq, exists_eq_left', exists_eq_left, exists_and_left, List.cons.injEq, and_true, true_and, sc_ii, sc_ss, sc_bb, sc_ni, sc_in, sc_is, sc_si, sc_nn, decide_true, decide_false, reduceCtorEq, Bool.false_eq_true, if_true, if_false, ite_true, ite_false, exists_const, eq_self, false_and, and_false, or_false, false_or, exists_false, Evl.rLenS, rSum, wipe, tYes, exists_eq, exists_eq', rIxL, rIxT, rIxS, exists_and_right, gt_iff_lt, not_true_eq_false, not_false_eq_true, Bool.not_true, Bool.not_false, decide_eq_true_eq, Nat.reduceSub, Nat.reduceAdd, List.append_assoc, tChain, tDIn, tDNotIn, sDDel, tAug, ipI, rInt1_int, rInt1_bl]
      have hm := List.mem_of_getElem? hh
      obtain ⟨hb, h3, _⟩ := E.hld h hm
      have jl : j < (hls zs.length).length := (List.getElem?_eq_some_iff.mp hh).1
      obtain ⟨l12, l8⟩ := okT_le (n := zs.length) (j := j) (by omega) (by have := (okT_le (n := zs.length) (j := 0) (by omega) (by omega)).2; omega)
      refine forSA (H0 := H) (a := a) (xs := zs.map V.str) (fun i σ H' => ∃ (ws : List V) (c3 : Option V), σ = [some (.ref a), some (.ref p), some x, c3] ∧ H' p = some (.lst ws) ∧ H' l = some (.lst us) ∧ Rw (ET zs H') ws (((hls zs.length).take j).flatMap (entsOf zs.length) ++ entsI h i) ∧ Tp H2 H' ∧ Kp [] H H') rfl ha ⟨ws, c3, rfl, hp3, hl3, by rw [show entsI h 0 = [] from rfl, List.append_nil]; exact hr3, t3, k3⟩ (fun j σ H' h => by obtain ⟨_, _, _, _, _, _, _, k⟩ := h; exact k) ?_ ?_
      · rintro i y σ H4 hi ⟨ws4, c4, rfl, hp4, hl4, hr4, t4, k4⟩
        have il : i < zs.length := by
          have := (List.getElem?_eq_some_iff.mp hi).1
          rwa [List.length_map] at this
        rw [List.getElem?_map, nm_at il] at hi
        cases hi
        obtain ⟨va, rfl, hva⟩ := hx.tp t4
        try simp (maxSteps := 1000000) only [tSeq, tIfS, tTest, tOp, tUn, tCB, tCons, tNil, tVar, tC, rI0, rI, rU, rEq, rNe, tRet, tRetN, tAsg, gName, gSub, tBM, tBM0, tNext, tB, tNot, tAnd, tOr, tIf, tCall, tDrop, tBreak, tCont, L2.start, tDGet, sDPut, tTup, tLst, tDNewK, tRevL, rCat, rAppend, rPop, rSetL, tAndV, tOrV, tNotV, tSl, tPart, tNoPart, tM1, gTup, gCons, gNil, cxK, cxnK, List.map_cons, List.map_nil, List.length_cons, List.length_nil, List.replicate, List.cons_append, List.nil_append, List.append_nil, List.set_cons_zero, List.set_cons_succ, List.getElem?_cons_zero, List.getElem?_cons_succ, Option.some.injEq, V.ref.injEq, V.int.injEq, V.str.injEq, V.bl.injEq, V.ty.injEq, exists_eq_left', exists_eq_left, exists_and_left, List.cons.injEq, and_true, true_and, sc_ii, sc_ss, sc_bb, sc_ni, sc_in, sc_is, sc_si, sc_nn, decide_true, decide_false, reduceCtorEq, Bool.false_eq_true, if_true, if_false, ite_true, ite_false, exists_const, eq_self, false_and, and_false, or_false, false_or, exists_false, Evl.rLenS, rSum, wipe, tYes, exists_eq, exists_eq', rIxL, rIxT, rIxS, exists_and_right, gt_iff_lt, not_true_eq_false, not_false_eq_true, Bool.not_true, Bool.not_false, decide_eq_true_eq, Nat.reduceSub, Nat.reduceAdd, List.append_assoc, tChain, tDIn, tDNotIn, sDDel, tAug, ipI, rInt1_int, rInt1_bl]
        refine nin_nm L il hb (sq_t hva) ⟨_, rfl, ?_⟩
        by_cases e : i ∈ h
        · rw [decide_eq_true e, if_neg (by decide)]
          exact ⟨ws4, hp4, hl4, by rw [entsI_in e]; exact hr4, t4, k4⟩
        · rw [decide_eq_false e, if_pos (by decide)]
          try simp (maxSteps := 1000000) only [tSeq, tIfS, tTest, tOp, tUn, tCB, tCons, tNil, tVar, tC, rI0, rI, rU, rEq, rNe, tRet, tRetN, tAsg, gName, gSub, tBM, tBM0, tNext, tB, tNot, tAnd, tOr, tIf, tCall, tDrop, tBreak, tCont, L2.start, tDGet, sDPut, tTup, tLst, tDNewK, tRevL, rCat, rAppend, rPop, rSetL, tAndV, tOrV, tNotV, tSl, tPart, tNoPart, tM1, gTup, gCons, gNil, cxK, cxnK, List.map_cons, List.map_nil, List.length_cons, List.length_nil, List.replicate, List.cons_append, List.nil_append, List.append_nil, List.set_cons_zero, List.set_cons_succ, List.getElem?_cons_zero, List.getElem?_cons_succ, Option.some.injEq, V.ref.injEq, V.int.injEq, V.str.injEq, V.bl.injEq, V.ty.injEq, exists_eq_left', exists_eq_left, exists_and_left, List.cons.injEq, and_true, true_and, sc_ii, sc_ss, sc_bb, sc_ni, sc_in, sc_is, sc_si, sc_nn, decide_true, decide_false, reduceCtorEq, Bool.false_eq_true, if_true, if_false, ite_true, ite_false, exists_const, eq_self, false_and, and_false, or_false, false_or, exists_false, Evl.rLenS, rSum, wipe, tYes, exists_eq, exists_eq', rIxL, rIxT, rIxS, exists_and_right, gt_iff_lt, not_true_eq_false, not_false_eq_true, Bool.not_true, Bool.not_false, decide_eq_true_eq, Nat.reduceSub, Nat.reduceAdd, List.append_assoc, tChain, tDIn, tDNotIn, sDDel, tAug, ipI, rInt1_int, rInt1_bl]
          refine ⟨.inl ⟨rfl, _, sq_l hp4⟩, by rw [sizeLine_eq]; decide, fun t nt => ?_⟩
          have kt := (Kp.new nt : Kp [] H4 (upd H4 t (.tup [.ref va, .str (nmL zs i)])))
          have ht : ET zs (upd H4 t (.tup [.ref va, .str (nmL zs i)])) (.ref t) (h, i) := ⟨t, _, rfl, upd_same, ⟨va, rfl, kt _ _ not0 hva⟩⟩
          generalize upd H4 t (.tup [.ref va, .str (nmL zs i)]) = H5 at kt ht ⊢
          have hp5 := kt _ _ not0 hp4
          have hl5 := kt _ _ not0 hl4
          have tp : Tp H5 (upd H5 p (.lst (ws4 ++ [.ref t]))) := (Tp.refl _).putL hp5
          have ei := entsI_le h i
          refine ⟨ws4, hp5, smallL (by rw [hr4.len, List.length_append]; omega), ws4 ++ [.ref t], upd_same, by rw [upd_ne lp]; exact hl5, ?_, (t4.trans kt.tps).trans tp, (k4.trans kt).wr np⟩
          rw [entsI_nin e, ← List.append_assoc]
          exact ((hr4.mono fun _ _ z => z.tp kt.tps).snoc ht).mono fun _ _ z => z.tp tp
      · rintro σ H4 ⟨ws4, c4, rfl, hp4, hl4, hr4, t4, k4⟩
        rw [List.length_map] at hr4
        try simp (maxSteps := 1000000) only [tSeq, tIfS, tTest, tOp, tUn, tCB, tCons, tNil, tVar, tC, rI0, rI, rU, rEq, rNe, tRet, tRetN, tAsg, gName, gSub, tBM, tBM0, tNext, tB, tNot, tAnd, tOr, tIf, tCall, tDrop, tBreak, tCont, L2.start, tDGet, sDPut, tTup, tLst, tDNewK, tRevL, rCat, rAppend, rPop, rSetL, tAndV, tOrV, tNotV, tSl, tPart, tNoPart, tM1, gTup, gCons, gNil, cxK, cxnK, List.map_cons, List.map_nil, List.length_cons, List.length_nil, List.replicate, List.cons_append, List.nil_append, List.append_nil, List.set_cons_zero, List.set_cons_succ, List.getElem?_cons_zero, List.getElem?_cons_succ, Option.some.injEq, V.ref.injEq, V.int.injEq, V.str.injEq, V.bl.injEq, V.ty.injEq, exists_eq_left', exists_eq_left, exists_and_left, List.cons.injEq, and_true, true_and, sc_ii, sc_ss, sc_bb, sc_ni, sc_in, sc_is, sc_si, sc_nn, decide_true, decide_false, reduceCtorEq, Bool.false_eq_true, if_true, if_false, ite_true, ite_false, exists_const, eq_self, false_and, and_false, or_false, false_or, exists_false, Evl.rLenS, rSum, wipe, tYes, exists_eq, exists_eq', rIxL, rIxT, rIxS, exists_and_right, gt_iff_lt, not_true_eq_false, not_false_eq_true, Bool.not_true, Bool.not_false, decide_eq_true_eq, Nat.reduceSub, Nat.reduceAdd, List.append_assoc, tChain, tDIn, tDNotIn, sDDel, tAug, ipI, rInt1_int, rInt1_bl]
        refine ⟨ws4, hp4, hl4, ?_, t4, k4⟩
        rw [take_one hh, List.flatMap_append]
        rw [List.flatMap_cons, List.flatMap_nil, List.append_nil]
        exact hr4
    · rintro σ H3 ⟨ws, c2, c3, rfl, hp3, hl3, hr3, t3, k3⟩
      try simp (maxSteps := 1000000) only [tSeq, tIfS, tTest, tOp, tUn, tCB, tCons, tNil, tVar, tC, rI0, rI, rU, rEq, rNe, tRet, tRetN, tAsg, gName, gSub, tBM, tBM0, tNext, tB, tNot, tAnd, tOr, tIf, tCall, tDrop, tBreak, tCont, L2.start, tDGet, sDPut, tTup, tLst, tDNewK, tRevL, rCat, rAppend, rPop, rSetL, tAndV, tOrV, tNotV, tSl, tPart, tNoPart, tM1, gTup, gCons, gNil, cxK, cxnK, List.map_cons, List.map_nil, List.length_cons, List.length_nil, List.replicate, List.cons_append, List.nil_append, List.append_nil, List.set_cons_zero, List.set_cons_succ, List.getElem?_cons_zero, List.getElem?_cons_succ, Option.some.injEq, V.ref.injEq, V.int.injEq, V.str.injEq, V.bl.injEq, V.ty.injEq, exists_eq_left', exists_eq_left, exists_and_left, List.cons.injEq, and_true, true_and, sc_ii, sc_ss, sc_bb, sc_ni, sc_in, sc_is, sc_si, sc_nn, decide_true, decide_false, reduceCtorEq, Bool.false_eq_true, if_true, if_false, ite_true, ite_false, exists_const, eq_self, false_and, and_false, or_false, false_or, exists_false, Evl.rLenS, rSum, wipe, tYes, exists_eq, exists_eq', rIxL, rIxT, rIxS, exists_and_right, gt_iff_lt, not_true_eq_false, not_false_eq_true, Bool.not_true, Bool.not_false, decide_eq_true_eq, Nat.reduceSub, Nat.reduceAdd, List.append_assoc, tChain, tDIn, tDNotIn, sDDel, tAug, ipI, rInt1_int, rInt1_bl]
      rw [hus.len, List.take_length] at hr3
      exact q p ws H3 np hp3 hr3 k3
end
end My

set_option Elab.async false
set_option linter.all false
set_option maxRecDepth 100000
set_option maxHeartbeats 4000000
namespace My
open PySem L2 NdefX StX
abbrev s_OtherLocks_init : Stmt := mtop 6 0
theorem sc_OtherLocks_init : NScope ["self", "__class__"] ["self"] ["__class__"] (defScope s_OtherLocks_init) := nscope_by (by decide +kernel)
theorem ok_OtherLocks_init {P : Program} {w : World} {K : PySem.W.Frag} {mg : Str → Option Value} {base : Heap} {CX : CXT} {f cc cda C : Addr} {fd : FuncData} (F : FunX K "__init__" "OtherLocks.__init__" s_OtherLocks_init f fd cc cda C) (T : ErrC K C) (G : CodeF K P cda) (hsup : mg "super" = none) :
    FnOk P w K mg base CX 1 f fd ["self"] (spErr0 C) := by
  have F0 := F
  obtain ⟨oc, od, kV, doc, pm, an, ct, osl, hfd, lk, hcd⟩ := F0.ex
  obtain ⟨cl, cld, csl, hcc⟩ := F0.cell
  refine F.ok sc_OtherLocks_init (fun vs H Q E h => ?_) (fun A outer s H vs Q E hr h => ?_)
  · obtain ⟨a, rfl, _⟩ := h
    rfl
  · obtain ⟨a, rfl, ha, q⟩ := h
    refine ⟨_, psat_cons (psat_sup T G lk (by rw [hfd]; rfl) hcc hsup rfl rfl rfl rfl rfl rfl rfl (pa_cons pe_str pa_nil) rfl rfl rfl rfl rfl) pss_nil, ?_⟩
    try simp (maxSteps := 1000000) only [tSeq, tIfS, tTest, tOp, tUn, tCB, tCons, tNil, tVar, tC, rI0, rI, rU, rEq, rNe, tRet, tRetN, tAsg, gName, gSub, tBM, tBM0, tNext, tB, tNot, tAnd, tOr, tIf, tCall, tDrop, tBreak, tCont, L2.start, tDGet, sDPut, tTup, tLst, tDNewK, tRevL, rCat, rAppend, rPop, rSetL, tAndV, tOrV, tNotV, tSl, tPart, tNoPart, tM1, gTup, gCons, gNil, cxK, cxnK, List.map_cons, List.map_nil, List.length_cons, List.length_nil, List.replicate, List.cons_append, List.nil_append, List.append_nil, List.set_cons_zero, List.set_cons_succ, List.getElem?_cons_zero, List.getElem?_cons_succ, Option.some.injEq, V.ref.injEq, V.int.injEq, V.str.injEq, V.bl.injEq, V.ty.injEq, exists_eq_left', exists_eq_left, exists_and_left, List.cons.injEq, and_true, true_and, sc_ii, sc_ss, sc_bb, sc_ni, sc_in, sc_is, sc_si, sc_nn, decide_true, decide_false, reduceCtorEq, Bool.false_eq_true, if_true, if_false, ite_true, ite_false, exists_const, eq_self, false_and, and_false, or_false, false_or, exists_false, Evl.rLenS, rSum, wipe, tYes, exists_eq, exists_eq', rIxL, rIxT, rIxS, exists_and_right, gt_iff_lt, not_true_eq_false, not_false_eq_true, Bool.not_true, Bool.not_false, decide_eq_true_eq, Nat.reduceSub, Nat.reduceAdd, List.append_assoc, tChain, tDIn, tDNotIn, sDDel, tAug, ipI, rInt1_int, rInt1_bl, startF, tSupI]
    exact ⟨ha, by decide, ha, q⟩
abbrev s_check_same_locks : Stmt := top 17
theorem sc_check_same_locks : FnScope ["a", "b"] ["a", "b"] (defScope s_check_same_locks) := ⟨rfl, rfl, rfl, by decide +kernel, rfl, by decide +kernel, by decide +kernel⟩
abbrev s_within : Stmt := top 21
theorem sc_within : FnScope ["a", "b", "held", "name"] ["a", "b"] (defScope s_within) := ⟨rfl, rfl, rfl, by decide +kernel, rfl, by decide +kernel, by decide +kernel⟩
abbrev s_Rule_contains : Stmt := mtop 12 2
theorem sc_Rule_contains : FnScope ["self", "x"] ["self", "x"] (defScope s_Rule_contains) := ⟨rfl, rfl, rfl, by decide +kernel, rfl, by decide +kernel, by decide +kernel⟩
abbrev s_Rule_and : Stmt := mtop 12 6
theorem sc_Rule_and : FnScope ["self", "other", "entry"] ["self", "other"] (defScope s_Rule_and) := ⟨rfl, rfl, rfl, by decide +kernel, rfl, by decide +kernel, by decide +kernel⟩
/-- where the two rules have the same locks: nothing; else OtherLocks is raised -/
def spSame (RC OL : Addr) : Sp := fun vs H Q E => ∃ (o1 o2 : Addr) (z1 z2 : List Str) (e1 e2 : List En), vs = [.ref o1, .ref o2] ∧ RuAt RC H o1 z1 e1 ∧ RuAt RC H o2 z2 e2 ∧ (z1 = z2 → ∀ H', Kp [] H H' → Q .non H') ∧ (z1 ≠ z2 → ∀ H', Kp [] H H' → E (.ref OL) none H')
section
variable {P : Program} {w : World} {K : PySem.W.Frag} {mg : Str → Option Value} {base : Heap} {tL t3 : Tok} {RC OL : Addr}
theorem ok_check_same_locks {f : Addr} {fd : FuncData} (D : Df K mg "check_same_locks" s_check_same_locks ["a", "b"] f fd) (RR : RuC K mg RC) {fO : Addr} {fdO : FuncData} (E_OtherLocks : Er0 P w K mg base "OtherLocks" OL fO fdO ["self"])
    {fL : Addr} {fdL : FuncData} (ME_Rule_locks : Meth K RC "locks" fL) (bM_Rule_locks : Binds K fdL ["self"] []) (G_Rule_locks : FnOk P w K mg base CX0 1 fL fdL ["self"] (spRuL RC)) : FnOk P w K mg base (L2.CX P w) 3 f fd ["a", "b"] (spSame RC OL) := by
  refine D.F.okX sc_check_same_locks (fun vs H Q E h => ?_) (fun cdv A outer s H vs Q E hr h => ?_)
  · obtain ⟨_, _, _, _, _, _, rfl, _⟩ := h
    rfl
  · obtain ⟨o1, o2, z1, z2, e1, e2, rfl, h1, h2, qG, qB⟩ := h
    refine ⟨_, (pss_one (ps_if (pt_cmpR (op_neD hr.units) (pe_meth0 (pv 0) RR.cl ME_Rule_locks G_Rule_locks (hr.mono (by decide)) bM_Rule_locks .nil pass0) (pe_meth0 (pv 1) RR.cl ME_Rule_locks G_Rule_locks (hr.mono (by decide)) bM_Rule_locks .nil pass0) (nomark _)) (pss_one (ps_raise rfl (takes_of rfl rfl rfl rfl) (pmk_oex0 E_OtherLocks.ox E_OtherLocks.ic E_OtherLocks.ti E_OtherLocks.G (hr.mono (by decide)) E_OtherLocks.b passL rfl E_OtherLocks.k))) pss_nil)), ?_⟩
    try simp (maxSteps := 1000000) only [tSeq, tIfS, tTest, tOp, tUn, tCB, tCons, tNil, tVar, tC, rI0, rI, rU, rEq, rNe, tRet, tRetN, tAsg, gName, gSub, tBM, tBM0, tNext, tB, tNot, tAnd, tOr, tIf, tCall, tDrop, tBreak, tCont, L2.start, tDGet, sDPut, tTup, tLst, tDNewK, tRevL, rCat, rAppend, rPop, rSetL, tAndV, tOrV, tNotV, tSl, tPart, tNoPart, tM1, gTup, gCons, gNil, cxK, cxnK, List.map_cons, List.map_nil, List.length_cons, List.length_nil, List.replicate, List.cons_append, List.nil_append, List.append_nil, List.set_cons_zero, List.set_cons_succ, List.getElem?_cons_zero, List.getElem?_cons_succ, Option.some.injEq, V.ref.injEq, V.int.injEq, V.str.injEq, V.bl.injEq, V.ty.injEq, exists_eq_left', exists_eq_left, exists_and_left, List.cons.injEq, and_true, true_and, sc_ii, sc_ss, sc_bb, sc_ni, sc_in, sc_is, sc_si, sc_nn, decide_true, decide_false, reduceCtorEq, Bool.false_eq_true, if_true, if_false, ite_true, ite_false, exists_const, eq_self, false_and, and_false, or_false, false_or, exists_false, Evl.rLenS, rSum, wipe, tYes, exists_eq, exists_eq', rIxL, rIxT, rIxS, exists_and_right, gt_iff_lt, not_true_eq_false, not_false_eq_true, Bool.not_true, Bool.not_false, decide_eq_true_eq, Nat.reduceSub, Nat.reduceAdd, List.append_assoc, tChain, tDIn, tDNotIn, sDDel, tAug, ipI, rInt1_int, rInt1_bl, tMeth]
    obtain ⟨dx1, l1, m1, us1, ho1, hl1, hm1, hus1, L1, hs1⟩ := id h1
    obtain ⟨dx2, l2, m2, us2, ho2, hl2, hm2, hus2, L2, hs2⟩ := id h2
    refine ⟨dx1, _, ho1, rfl, o1, z1, e1, rfl, h1, fun p1 H1 np1 hp1 k1 => ?_⟩
    refine ⟨dx2, _, k1 _ _ not0 ho2, rfl, o2, z2, e2, rfl, h2.kp k1, fun p2 H2 np2 hp2 k2 => ?_⟩
    have shL : ∀ z : List Str, LkOk z → SeqAt.shaped (.list (z.map PyData.str)) = true := fun z L => (fk_lst (k := 1) fun d hd => by
      obtain ⟨x, hx, rfl⟩ := List.mem_map.mp hd
      exact fk_name (L.nm x hx)).sh (by decide)
    refine ⟨_, _, .lst (sq_l (k2 _ _ not0 hp1)) (dpStrs _), .lst (sq_l hp2) (dpStrs _), shL z1 L1, shL z2 L2, ?_⟩
    rw [show PyData.eqv (.list (z1.map PyData.str)) (.list (z2.map PyData.str)) = decide (z1 = z2) from eqvAll_strs z1 z2]
    refine ⟨_, rfl, ?_⟩
    by_cases e : z1 = z2
    · rw [decide_eq_true e, if_neg (by decide)]
      exact qG e _ (k1.trans k2)
    · rw [decide_eq_false e, if_pos (by decide)]
      exact qB e _ (k1.trans k2)
def spCont (RC : Addr) : Sp := fun vs H Q _ => ∃ (o : Addr) (v : V) (zs : List Str) (es : List En) (e : En), vs = [.ref o, v] ∧ RuAt RC H o zs es ∧ ET zs H v e ∧ belowE zs.length e ∧ Q (.bl (decide (e ∈ es))) H
theorem ok_Rule_contains {f : Addr} {fd : FuncData} (F : Fun K "__contains__" "Rule.__contains__" s_Rule_contains f fd) (RR : RuC K mg RC) : FnOk P w K mg base CX0 1 f fd ["self", "x"] (spCont RC) := by
  refine F.ok sc_Rule_contains (fun vs H Q E h => ?_) (fun cdv A outer s H vs Q E hr h => ?_)
  · obtain ⟨_, _, _, _, _, rfl, _⟩ := h
    rfl
  · obtain ⟨o, v, zs, es, e, rfl, hR, hv, hb, q⟩ := h
    have hu := hu_of hr
    obtain ⟨dx, l, m, us, ho, hl, hm, hus, L, hs⟩ := id hR
    have E := factE (n := zs.length) (by have := L.le; omega) L.pos
    have hbe : ∀ e ∈ es, belowE zs.length e := fun e he => (E.ent e (hs.subset he)).1
    refine ⟨_, (pss_one (ps_ret (pe_cmpR (op_inD (hu5 hr)) (pv 1) (pe_fld (pv 0) rfl) (by rfl)))), ?_⟩
    try simp (maxSteps := 1000000) only [tSeq, tIfS, tTest, tOp, tUn, tCB, tCons, tNil, tVar, tC, rI0, rI, rU, rEq, rNe, tRet, tRetN, tAsg, gName, gSub, tBM, tBM0, tNext, tB, tNot, tAnd, tOr, tIf, tCall, tDrop, tBreak, tCont, L2.start, tDGet, sDPut, tTup, tLst, tDNewK, tRevL, rCat, rAppend, rPop, rSetL, tAndV, tOrV, tNotV, tSl, tPart, tNoPart, tM1, gTup, gCons, gNil, cxK, cxnK, List.map_cons, List.map_nil, List.length_cons, List.length_nil, List.replicate, List.cons_append, List.nil_append, List.append_nil, List.set_cons_zero, List.set_cons_succ, List.getElem?_cons_zero, List.getElem?_cons_succ, Option.some.injEq, V.ref.injEq, V.int.injEq, V.str.injEq, V.bl.injEq, V.ty.injEq, exists_eq_left', exists_eq_left, exists_and_left, List.cons.injEq, and_true, true_and, sc_ii, sc_ss, sc_bb, sc_ni, sc_in, sc_is, sc_si, sc_nn, decide_true, decide_false, reduceCtorEq, Bool.false_eq_true, if_true, if_false, ite_true, ite_false, exists_const, eq_self, false_and, and_false, or_false, false_or, exists_false, Evl.rLenS, rSum, wipe, tYes, exists_eq, exists_eq', rIxL, rIxT, rIxS, exists_and_right, gt_iff_lt, not_true_eq_false, not_false_eq_true, Bool.not_true, Bool.not_false, decide_eq_true_eq, Nat.reduceSub, Nat.reduceAdd, List.append_assoc, tChain, tDIn, tDNotIn, sDDel, tAug, ipI, rInt1_int, rInt1_bl, tFld]
    refine ⟨RC, dx, _, ho, RR.cl, RR.n2, .ref m, rfl, ?_⟩
    exact in_ens L hb hbe hv (sq_l hm) hus q
theorem flatM_le {α β : Type} {f : α → List β} {c : Nat} : ∀ {l : List α}, (∀ x ∈ l, (f x).length ≤ c) → (l.flatMap f).length ≤ l.length * c
  | [], _ => by simp
  | x :: l, h => by
    have ih := flatM_le (l := l) fun y hy => h y (List.mem_cons_of_mem _ hy)
    have hx := h x List.mem_cons_self
    rw [List.flatMap_cons, List.length_append, List.length_cons, Nat.succ_mul]
    omega
theorem may_le {es : List En} {h : Hd} : (mayR es h).length ≤ es.length := by
  unfold mayR
  rw [List.length_map]
  exact List.length_filter_le _ _
theorem rw_bls : ∀ {gs : List Bool} {us : List V}, Rw (fun v b => v = V.bl b) us gs → us = gs.map V.bl
  | [], us, r => r.isNil
  | g :: gs, us, r => by
    obtain ⟨u, t, rfl, e, r'⟩ := r.ex
    rw [e, rw_bls r']
    rfl
noncomputable def wiR (n : Nat) (es fs : List En) : Bool := ((hls n).filter (rchB n es)).all fun h => (mayR es h).all fun r => decide ((h, r) ∈ fs)
def spWi (RC OL : Addr) : Sp := fun vs H Q E => ∃ (o1 o2 : Addr) (z1 z2 : List Str) (e1 e2 : List En), vs = [.ref o1, .ref o2] ∧ RuAt RC H o1 z1 e1 ∧ RuAt RC H o2 z2 e2 ∧ (z1 = z2 → ∀ H', Kp [] H H' → Q (.bl (wiR z1.length e1 e2)) H') ∧ (z1 ≠ z2 → ∀ H', Kp [] H H' → E (.ref OL) none H')
theorem ok_within {f : Addr} {fd : FuncData} (D : Df K mg "within" s_within ["a", "b"] f fd) (T : Bt mg tL t3) (RR : RuC K mg RC) {f1 : Addr} {fd1 : FuncData} (D_check_same_locks : Df K mg "check_same_locks" s_check_same_locks ["a", "b"] f1 fd1) (G_check_same_locks : FnOk P w K mg base (L2.CX P w) 3 f1 fd1 ["a", "b"] (spSame RC OL))
    {f2 : Addr} {fd2 : FuncData} (D_reachable : Df K mg "reachable" s_reachable ["rule"] f2 fd2) (G_reachable : FnOk P w K mg base CX0 5 f2 fd2 ["rule"] (spReach RC))
    {fG fC : Addr} {fdG fdC : FuncData} (GT_Rule : GetC K RC fG) (b_Rule_getitem : Binds K fdG ["self", "at"] []) (G_Rule_getitem : FnOk P w K mg base CX0 3 fG fdG ["self", "at"] (spRuG RC)) (IN_Rule : InC K RC fC) (b_Rule_contains : Binds K fdC ["self", "x"] []) (G_Rule_contains : FnOk P w K mg base CX0 1 fC fdC ["self", "x"] (spCont RC)) : FnOk P w K mg base (L2.CX P w) 6 f fd ["a", "b"] (spWi RC OL) := by
  refine D.F.okX sc_within (fun vs H Q E h => ?_) (fun cdv A outer s H vs Q E hr h => ?_)
  · obtain ⟨_, _, _, _, _, _, rfl, _⟩ := h
    rfl
  · obtain ⟨o1, o2, z1, z2, e1, e2, rfl, h1, h2, qG, qB⟩ := h
    refine ⟨_, (pss_cons (ps_expr (pe_call G_check_same_locks (hr.mono (by decide)) rfl D_check_same_locks.g D_check_same_locks.F.kp D_check_same_locks.b .nil (passes_call (E := E) (takes_of rfl rfl rfl rfl) (fun _ _ _ _ h => h)) (pa_cons (pv 0) (pa_cons (pv 1) pa_nil))))
      (pss_one (ps_ret (pe_callB (id := "all") (r := rAll K) (cr_all rfl) (by rfl) T.b_all (by decide +kernel) (pa_cons (pe_lc2 (own := [("held", 2), ("name", 3)]) (g1 := (gName 2)) (g2 := (gName 3)) (vs2 := [3]) (tt1 := tYes) (tt2 := tYes) rfl sc_within.nd (pi_list (pe_call G_reachable (hr.mono (by decide)) rfl D_reachable.g D_reachable.F.kp D_reachable.b .nil pass0 (pa_cons (pv 0) pa_nil))) (blkOk_by (N := ["a", "b", "held", "name"]) (sc := defScope s_within) (by decide +kernel)) (by decide) (fun _ _ _ _ _ => (pg_name (i := 2) sc_within.nd rfl (Or.inl rfl))) (fun _ _ _ _ _ => pts_nil) (fun _ _ _ _ _ => ((pi_list (pe_getO GT_Rule G_Rule_getitem b_Rule_getitem (hr.mono (by decide)) pass0 (pv 0) (pv 2))) : PI _ _ _ (iList K _))) (fun _ _ _ _ _ => (pg_name (i := 3) sc_within.nd rfl (Or.inl rfl))) (fun _ _ _ _ _ => pts_nil) (fun _ _ _ _ _ => (pe_cmpR (op_inO IN_Rule G_Rule_contains b_Rule_contains (hr.mono (by decide)) pass0) (pe_tup (pa_cons (pv 2) (pa_cons (pv 3) pa_nil))) (pv 1) (by rfl)))) pa_nil))))), ?_⟩
    try simp (maxSteps := 1000000) only [tSeq, tIfS, tTest, tOp, tUn, tCB, tCons, tNil, tVar, tC, rI0, rI, rU, rEq, rNe, tRet, tRetN, tAsg, gName, gSub, tBM, tBM0, tNext, tB, tNot, tAnd, tOr, tIf, tCall, tDrop, tBreak, tCont, L2.start, tDGet, sDPut, tTup, tLst, tDNewK, tRevL, rCat, rAppend, rPop, rSetL, tAndV, tOrV, tNotV, tSl, tPart, tNoPart, tM1, gTup, gCons, gNil, cxK, cxnK, List.map_cons, List.map_nil, List.length_cons, List.length_nil, List.replicate, List.cons_append, List.nil_append, List.append_nil, List.set_cons_zero, List.set_cons_succ, List.getElem?_cons_zero, List.getElem?_cons_succ, Option.some.injEq, V.ref.injEq, V.int.injEq, V.str.injEq, V.bl.injEq, V.ty.injEq, exists_eq_left', exists_eq_left, exists_and_left, List.cons.injEq, and_true, true_and, sc_ii, sc_ss, sc_bb, sc_ni, sc_in, sc_is, sc_si, sc_nn, decide_true, decide_false, reduceCtorEq, Bool.false_eq_true, if_true, if_false, ite_true, ite_false, exists_const, eq_self, false_and, and_false, or_false, false_or, exists_false, Evl.rLenS, rSum, wipe, tYes, exists_eq, exists_eq', rIxL, rIxT, rIxS, exists_and_right, gt_iff_lt, not_true_eq_false, not_false_eq_true, Bool.not_true, Bool.not_false, decide_eq_true_eq, Nat.reduceSub, Nat.reduceAdd, List.append_assoc, tChain, tDIn, tDNotIn, sDDel, tAug, ipI, rInt1_int, rInt1_bl]
    refine ⟨o1, o2, z1, z2, e1, e2, rfl, h1, h2, fun ez H1 k1 => ?_, fun ez H' k => qB ez H' k⟩
    subst ez
    obtain ⟨dx1, l1, m1, us1, ho1, hl1, hm1, hus1, L, hs1⟩ := id h1
    obtain ⟨dx2, l2, m2, us2, ho2, hl2, hm2, hus2, _, hs2⟩ := id h2
    have EN := factE (n := z1.length) (by have := L.le; omega) L.pos
    have hbe : ∀ e ∈ e1, belowE z1.length e := fun e he => (EN.ent e (hs1.subset he)).1
    refine lc2_src ?_
    try simp (maxSteps := 1000000) only [tSeq, tIfS, tTest, tOp, tUn, tCB, tCons, tNil, tVar, tC, rI0, rI, rU, rEq, rNe, tRet, tRetN, tAsg, gName, gSub, tBM, tBM0, tNext, tB, tNot, tAnd, tOr, tIf, tCall, tDrop, tBreak, tCont, L2.start, tDGet, sDPut, tTup, tLst, tDNewK, tRevL, rCat, rAppend, rPop, rSetL, tAndV, tOrV, tNotV, tSl, tPart, tNoPart, tM1, gTup, gCons, gNil, cxK, cxnK, List.map_cons, List.map_nil, List.length_cons, List.length_nil, List.replicate, List.cons_append, List.nil_append, List.append_nil, List.set_cons_zero, List.set_cons_succ, List.getElem?_cons_zero, List.getElem?_cons_succ, Option.some.injEq, V.ref.injEq, V.int.injEq, V.str.injEq, V.bl.injEq, V.ty.injEq, exists_eq_left', exists_eq_left, exists_and_left, List.cons.injEq, and_true, true_and, sc_ii, sc_ss, sc_bb, sc_ni, sc_in, sc_is, sc_si, sc_nn, decide_true, decide_false, reduceCtorEq, Bool.false_eq_true, if_true, if_false, ite_true, ite_false, exists_const, eq_self, false_and, and_false, or_false, false_or, exists_false, Evl.rLenS, rSum, wipe, tYes, exists_eq, exists_eq', rIxL, rIxT, rIxS, exists_and_right, gt_iff_lt, not_true_eq_false, not_false_eq_true, Bool.not_true, Bool.not_false, decide_eq_true_eq, Nat.reduceSub, Nat.reduceAdd, List.append_assoc, tChain, tDIn, tDNotIn, sDDel, tAug, ipI, rInt1_int, rInt1_bl]
    refine ⟨o1, z1, e1, rfl, h1.kp k1, fun l us H2 nl hl hus k2 => ?_⟩
    dsimp only
    have k12 := k1.trans k2
    have lg : (((hls z1.length).filter (rchB z1.length e1)).flatMap (mayR e1)).length ≤ 1000 := by
      have l8 := (okT_le (n := z1.length) (j := 0) (by have := L.le; omega) (by omega)).2
      have l12 : e1.length ≤ 12 := Nat.le_trans hs1.length_le EN.len
      have hf := List.length_filter_le (rchB z1.length e1) (hls z1.length)
      have := flatM_le (f := mayR e1) (c := 12) (l := (hls z1.length).filter (rchB z1.length e1)) fun x _ => Nat.le_trans may_le l12
      omega
    refine lc2N (R := HT z1) (S := fun _ v r => v = V.str (nmL z1 r)) (R2 := fun _ v b => v = V.bl b) (fun _ _ _ _ t h => h.tp t) (fun _ _ _ _ _ h => h) (fun _ _ _ _ _ h => h) (mayR e1) (fun _ _ => true) (fun h r => decide ((h, r) ∈ e2)) (src_list (fun R q' => q') (sq_l hl)) hus lg (fun v h H3 M hm hv k3 hM => ?_) fun D us' H3 nD hD hr' k3 => ?_
    · have hh := (List.mem_filter.mp hm).1
      obtain ⟨hb, h3, _⟩ := EN.hld h hh
      refine hM _ _ (by simp [wipe]) (Kp.refl _ _) (fun R' hR' => ?_) fun u r H4 N N0 hr hu k4 t4 hN hN0 => ?_
      · unfold iList
        try simp (maxSteps := 1000000) only [tSeq, tIfS, tTest, tOp, tUn, tCB, tCons, tNil, tVar, tC, rI0, rI, rU, rEq, rNe, tRet, tRetN, tAsg, gName, gSub, tBM, tBM0, tNext, tB, tNot, tAnd, tOr, tIf, tCall, tDrop, tBreak, tCont, L2.start, tDGet, sDPut, tTup, tLst, tDNewK, tRevL, rCat, rAppend, rPop, rSetL, tAndV, tOrV, tNotV, tSl, tPart, tNoPart, tM1, gTup, gCons, gNil, cxK, cxnK, List.map_cons, List.map_nil, List.length_cons, List.length_nil, List.replicate, List.cons_append, List.nil_append, List.append_nil, List.set_cons_zero, List.set_cons_succ, List.getElem?_cons_zero, List.getElem?_cons_succ, Option.some.injEq, V.ref.injEq, V.int.injEq, V.str.injEq, V.bl.injEq, V.ty.injEq, exists_eq_left', exists_eq_left, exists_and_left, List.cons.injEq, and_true, true_and, sc_ii, sc_ss, sc_bb, sc_ni, sc_in, sc_is, sc_si, sc_nn, decide_true, decide_false, reduceCtorEq, Bool.false_eq_true, if_true, if_false, ite_true, ite_false, exists_const, eq_self, false_and, and_false, or_false, false_or, exists_false, Evl.rLenS, rSum, wipe, tYes, exists_eq, exists_eq', rIxL, rIxT, rIxS, exists_and_right, gt_iff_lt, not_true_eq_false, not_false_eq_true, Bool.not_true, Bool.not_false, decide_eq_true_eq, Nat.reduceSub, Nat.reduceAdd, List.append_assoc, tChain, tDIn, tDNotIn, sDDel, tAug, ipI, rInt1_int, rInt1_bl, rGetO]
        have k13 := k12.trans k3
        obtain ⟨va, rfl, hva⟩ := id hv
        refine ⟨⟨dx1, _, k13 _ _ not0 ho1⟩, o1, _, z1, e1, h, rfl, h1.kp k13, hv, hh, fun l4 H4 nl4 hl4 k4 => ?_⟩
        refine ⟨l4, rfl, ⟨_, sq_l hl4⟩, hR' l4 _ H4 k4 nl4 hl4 ht_rw⟩
      · subst hu
        have rn := may_lt hbe r hr
        refine ⟨by simp [wipe], ?_⟩
        obtain ⟨va, rfl, hva⟩ := id hv
        try simp (maxSteps := 1000000) only [tSeq, tIfS, tTest, tOp, tUn, tCB, tCons, tNil, tVar, tC, rI0, rI, rU, rEq, rNe, tRet, tRetN, tAsg, gName, gSub, tBM, tBM0, tNext, tB, tNot, tAnd, tOr, tIf, tCall, tDrop, tBreak, tCont, L2.start, tDGet, sDPut, tTup, tLst, tDNewK, tRevL, rCat, rAppend, rPop, rSetL, tAndV, tOrV, tNotV, tSl, tPart, tNoPart, tM1, gTup, gCons, gNil, cxK, cxnK, List.map_cons, List.map_nil, List.length_cons, List.length_nil, List.replicate, List.cons_append, List.nil_append, List.append_nil, List.set_cons_zero, List.set_cons_succ, List.getElem?_cons_zero, List.getElem?_cons_succ, Option.some.injEq, V.ref.injEq, V.int.injEq, V.str.injEq, V.bl.injEq, V.ty.injEq, exists_eq_left', exists_eq_left, exists_and_left, List.cons.injEq, and_true, true_and, sc_ii, sc_ss, sc_bb, sc_ni, sc_in, sc_is, sc_si, sc_nn, decide_true, decide_false, reduceCtorEq, Bool.false_eq_true, if_true, if_false, ite_true, ite_false, exists_const, eq_self, false_and, and_false, or_false, false_or, exists_false, Evl.rLenS, rSum, wipe, tYes, exists_eq, exists_eq', rIxL, rIxT, rIxS, exists_and_right, gt_iff_lt, not_true_eq_false, not_false_eq_true, Bool.not_true, Bool.not_false, decide_eq_true_eq, Nat.reduceSub, Nat.reduceAdd, List.append_assoc, tChain, tDIn, tDNotIn, sDDel, tAug, ipI, rInt1_int, rInt1_bl, rInO]
        refine ⟨by rw [sizeLine_eq]; decide, fun p np => ?_⟩
        have kp := (Kp.new np : Kp [] H4 (upd H4 p (.tup [.ref va, .str (nmL z1 r)])))
        have k24 := (k12.trans k4).trans kp
        have hET : ET z1 (upd H4 p (.tup [.ref va, .str (nmL z1 r)])) (.ref p) (h, r) := ⟨p, _, rfl, upd_same, ⟨va, rfl, kp _ _ not0 (t4 _ _ hva)⟩⟩
        refine ⟨⟨dx2, _, k24 _ _ not0 ho2⟩, o2, _, z1, e2, (h, r), rfl, h2.kp k24, hET, ⟨hb, rn⟩, _, rfl, ?_⟩
        exact hN rfl _ _ rfl kp
    · have eU : us' = (((hls z1.length).filter (rchB z1.length e1)).flatMap fun x => ((mayR e1 x).filter fun _ => true).map fun r => decide ((x, r) ∈ e2)).map V.bl := rw_bls hr'
      refine ⟨D, _, rfl, by rw [eU] at hD; exact sq_l hD, ?_⟩
      have ev : (((hls z1.length).filter (rchB z1.length e1)).flatMap fun x => ((mayR e1 x).filter fun _ => true).map fun r => decide ((x, r) ∈ e2)).all id = wiR z1.length e1 e2 := by
        unfold wiR
        rw [List.all_flatMap]
        congr 1
        funext x
        rw [List.filter_eq_self.mpr (fun _ _ => rfl), List.all_map]
        rfl
      rw [ev]
      exact qG rfl _ (k12.trans k3)
end
end My

set_option Elab.async false
set_option linter.all false
set_option maxRecDepth 100000
set_option maxHeartbeats 4000000
namespace My
open PySem L2 NdefX StX
/-! ### what a rule that is within another tells -/
theorem wi_iff {n : Nat} {es fs : List En} : wiR n es fs = true ↔ ∀ h ∈ hls n, RchR n es h → ∀ r, (h, r) ∈ es → (h, r) ∈ fs := by
  unfold wiR
  rw [List.all_eq_true]
  constructor
  · intro a h hh hr r he
    have := a h (List.mem_filter.mpr ⟨hh, rchB_iff.mpr hr⟩)
    rw [List.all_eq_true] at this
    refine of_decide_eq_true (this r ?_)
    unfold mayR
    exact List.mem_map.mpr ⟨(h, r), List.mem_filter.mpr ⟨he, by simp⟩, rfl⟩
  · intro a h hm
    obtain ⟨hh, hr⟩ := List.mem_filter.mp hm
    rw [List.all_eq_true]
    intro r hr'
    unfold mayR at hr'
    obtain ⟨e, he, rfl⟩ := List.mem_map.mp hr'
    obtain ⟨he1, he2⟩ := List.mem_filter.mp he
    have e1 := of_decide_eq_true he2
    refine decide_eq_true (a h hh (rchB_iff.mp hr) e.2 ?_)
    rw [← e1]
    exact he1
theorem wi_sub {n : Nat} {es fs : List En} (s : ∀ e ∈ es, e ∈ fs) : wiR n es fs = true := wi_iff.mpr fun h _ _ r he => s _ he
theorem rch_hls {n : Nat} {es : List En} (E : EnOk n) (hes : es.Sublist (ens n)) {h : Hd} (r : RchR n es h) : h ∈ hls n := by
  induction r with
  | zero => exact E.nil
  | @step h g a m ih =>
    unfold nxtR at m
    obtain ⟨x, hx, rfl⟩ := List.mem_map.mp m
    refine (E.hld h ih).2.2 x ?_
    rcases List.mem_append.mp hx with hx | hx
    · exact may_lt (fun e he => (E.ent e (hes.subset he)).1) x hx
    · exact (E.hld h ih).1 x hx
theorem rch_wi {n : Nat} {es fs : List En} (E : EnOk n) (hes : es.Sublist (ens n)) (w : wiR n es fs = true) {h : Hd} (r : RchR n es h) : RchR n fs h := by
  induction r with
  | zero => exact .zero
  | @step h g a m ih =>
    unfold nxtR at m
    obtain ⟨x, hx, rfl⟩ := List.mem_map.mp m
    refine .step ih (List.mem_map.mpr ⟨x, ?_, rfl⟩)
    rcases List.mem_append.mp hx with hx | hx
    · exact List.mem_append.mpr (.inl (may_mem.mpr (wi_iff.mp w h (rch_hls E hes a) a x (may_mem.mp hx))))
    · exact List.mem_append.mpr (.inr hx)
end My

set_option Elab.async false
set_option linter.all false
set_option maxRecDepth 100000
set_option maxHeartbeats 4000000
namespace My
open PySem L2 NdefX StX
section
variable {P : Program} {w : World} {K : PySem.W.Frag} {mg : Str → Option Value} {base : Heap} {tL t3 : Tok} {RC OL : Addr}
theorem mkR {H : Hp} {la ea : Addr} {zs : List Str} {us : List V} {gs : List En} {Q : VK} {E : XK} (L : LkOk zs) (hla : H la = some (.tup (zs.map V.str))) (hea : SqAny K H ea us) (hgs : Rw (ET zs H) us gs) (hin : ∀ g ∈ gs, g ∈ ens zs.length) (g100 : gs.length ≤ 100)
    (q : ∀ o H', H o = none → RuAt RC H' o zs ((ens zs.length).filter fun e => decide (e ∈ gs)) → Kp [] H H' → Q (.ref o) H') (o dx : Addr) (no : H o = none) (ndx : H dx = none) (dxo : dx ≠ o) :
    spRuI RC K [.ref o, .ref la, .ref ea] (upd (upd H dx (.own o)) o (.ins RC dx [])) (fun v H2 => v = .non ∧ Q (.ref o) H2) E := by
  have k : Kp [] H (upd (upd H dx (.own o)) o (.ins RC dx [])) := (Kp.new ndx).wr no
  refine ⟨o, dx, la, ea, zs, us, gs, rfl, upd_same, L, k _ _ not0 hla, hea.imp (k.ls not0) (k.tp not0), hgs.mono fun _ _ z => z.tp k.tps, hin, g100, fun H' hR kI => ⟨rfl, ?_⟩⟩
  exact q o H' no hR fun b ob _ e => (k.of0.trans kI) b ob (not1 fun z => by rw [z, no] at e; cases e) e
def spAnd (RC : Addr) : Sp := fun vs H Q E => ∃ (o1 o2 : Addr) (zs : List Str) (e1 e2 : List En), vs = [.ref o1, .ref o2] ∧ RuAt RC H o1 zs e1 ∧ RuAt RC H o2 zs e2 ∧ ∀ o H', H o = none → RuAt RC H' o zs (e1.filter fun e => decide (e ∈ e2)) → Kp [] H H' → Q (.ref o) H'
theorem ok_Rule_and {f : Addr} {fd : FuncData} (F : Fun K "__and__" "Rule.__and__" s_Rule_and f fd) (T : BtG mg) (RR : RuC K mg RC) {f1 : Addr} {fd1 : FuncData} (D_check_same_locks : Df K mg "check_same_locks" s_check_same_locks ["a", "b"] f1 fd1) (G_check_same_locks : FnOk P w K mg base (L2.CX P w) 3 f1 fd1 ["a", "b"] (spSame RC OL))
    {fI : Addr} {fdI : FuncData} (M_Rule : Mk K RC fI) (bI_Rule : Binds K fdI ["self", "locks", "entries"] []) (G_Rule_init : FnOk P w K mg base CX0 4 fI fdI ["self", "locks", "entries"] (spRuI RC K)) : FnOk P w K mg base (L2.CX P w) 6 f fd ["self", "other"] (spAnd RC) := by
  refine F.okX sc_Rule_and (fun vs H Q E h => ?_) (fun cdv A outer s H vs Q E hr h => ?_)
  · obtain ⟨_, _, _, _, _, rfl, _⟩ := h
    rfl
  · obtain ⟨o1, o2, zs, e1, e2, rfl, h1, h2, q⟩ := h
    refine ⟨_, (pss_cons (ps_expr (pe_call G_check_same_locks (hr.mono (by decide)) rfl D_check_same_locks.g D_check_same_locks.F.kp D_check_same_locks.b .nil (passes_call (E := E) (takes_of rfl rfl rfl rfl) (fun _ _ _ _ h => h)) (pa_cons (pv 0) (pa_cons (pv 1) pa_nil))))
      (pss_one (ps_ret (pe_make M_Rule G_Rule_init (hr.mono (by decide)) rfl RR.k bI_Rule .nil pass0 (pa_cons (pe_callTy call_tuple_of (by rfl) T.b_tuple (by decide +kernel) (pa_cons (pe_fld (pv 0) rfl) pa_nil)) (pa_cons (pe_lc (own := [("entry", 2)]) (g := (gName 2)) rfl sc_Rule_and.nd (pi_list (pe_fld (pv 0) rfl)) (blkOk_by (N := ["self", "other", "entry"]) (sc := defScope s_Rule_and) (by decide +kernel)) (fun _ _ _ _ _ => (pg_name (i := 2) sc_Rule_and.nd rfl (Or.inl rfl))) (fun _ _ _ _ _ => (pts_one (pt_cmpR (r := rInD K) (op_inD (hu5 hr)) (pv 2) ((pe_fld (pv 1) rfl) : PE _ _ (tFld K _ "_entries")) (by rfl)))) (fun _ _ _ _ _ => (pv 2))) pa_nil)))))), ?_⟩
    try simp (maxSteps := 1000000) only [tSeq, tIfS, tTest, tOp, tUn, tCB, tCons, tNil, tVar, tC, rI0, rI, rU, rEq, rNe, tRet, tRetN, tAsg, gName, gSub, tBM, tBM0, tNext, tB, tNot, tAnd, tOr, tIf, tCall, tDrop, tBreak, tCont, L2.start, tDGet, sDPut, tTup, tLst, tDNewK, tRevL, rCat, rAppend, rPop, rSetL, tAndV, tOrV, tNotV, tSl, tPart, tNoPart, tM1, gTup, gCons, gNil, cxK, cxnK, List.map_cons, List.map_nil, List.length_cons, List.length_nil, List.replicate, List.cons_append, List.nil_append, List.append_nil, List.set_cons_zero, List.set_cons_succ, List.getElem?_cons_zero, List.getElem?_cons_succ, Option.some.injEq, V.ref.injEq, V.int.injEq, V.str.injEq, V.bl.injEq, V.ty.injEq, exists_eq_left', exists_eq_left, exists_and_left, List.cons.injEq, and_true, true_and, sc_ii, sc_ss, sc_bb, sc_ni, sc_in, sc_is, sc_si, sc_nn, decide_true, decide_false, reduceCtorEq, Bool.false_eq_true, if_true, if_false, ite_true, ite_false, exists_const, eq_self, false_and, and_false, or_false, false_or, exists_false, Evl.rLenS, rSum, wipe, tYes, exists_eq, exists_eq', rIxL, rIxT, rIxS, exists_and_right, gt_iff_lt, not_true_eq_false, not_false_eq_true, Bool.not_true, Bool.not_false, decide_eq_true_eq, Nat.reduceSub, Nat.reduceAdd, List.append_assoc, tChain, tDIn, tDNotIn, sDDel, tAug, ipI, rInt1_int, rInt1_bl, tFld]
    refine ⟨o1, o2, zs, zs, e1, e2, rfl, h1, h2, fun _ H1 k1 => ?_, fun z => absurd rfl z⟩
    obtain ⟨dx1, l1, m1, us1, ho1, hl1, hm1, hus1, L, hs1⟩ := h1.kp k1
    obtain ⟨dx2, l2, m2, us2, ho2, hl2, hm2, hus2, _, hs2⟩ := h2.kp k1
    have EN := factE (n := zs.length) (by have := L.le; omega) L.pos
    try simp (maxSteps := 1000000) only [tSeq, tIfS, tTest, tOp, tUn, tCB, tCons, tNil, tVar, tC, rI0, rI, rU, rEq, rNe, tRet, tRetN, tAsg, gName, gSub, tBM, tBM0, tNext, tB, tNot, tAnd, tOr, tIf, tCall, tDrop, tBreak, tCont, L2.start, tDGet, sDPut, tTup, tLst, tDNewK, tRevL, rCat, rAppend, rPop, rSetL, tAndV, tOrV, tNotV, tSl, tPart, tNoPart, tM1, gTup, gCons, gNil, cxK, cxnK, List.map_cons, List.map_nil, List.length_cons, List.length_nil, List.replicate, List.cons_append, List.nil_append, List.append_nil, List.set_cons_zero, List.set_cons_succ, List.getElem?_cons_zero, List.getElem?_cons_succ, Option.some.injEq, V.ref.injEq, V.int.injEq, V.str.injEq, V.bl.injEq, V.ty.injEq, exists_eq_left', exists_eq_left, exists_and_left, List.cons.injEq, and_true, true_and, sc_ii, sc_ss, sc_bb, sc_ni, sc_in, sc_is, sc_si, sc_nn, decide_true, decide_false, reduceCtorEq, Bool.false_eq_true, if_true, if_false, ite_true, ite_false, exists_const, eq_self, false_and, and_false, or_false, false_or, exists_false, Evl.rLenS, rSum, wipe, tYes, exists_eq, exists_eq', rIxL, rIxT, rIxS, exists_and_right, gt_iff_lt, not_true_eq_false, not_false_eq_true, Bool.not_true, Bool.not_false, decide_eq_true_eq, Nat.reduceSub, Nat.reduceAdd, List.append_assoc, tChain, tDIn, tDNotIn, sDDel, tAug, ipI, rInt1_int, rInt1_bl, tFld, tMake]
    refine ⟨RC, dx1, _, ho1, RR.cl, RR.n1, .ref l1, rfl, l1, rfl, _, .inl ⟨sq_l hl1, fun la nla => ?_⟩⟩
    have kl := (Kp.new nla : Kp [] H1 (upd H1 la (.tup (zs.map V.str))))
    have hla : (upd H1 la (.tup (zs.map V.str))) la = some (.tup (zs.map V.str)) := upd_same
    generalize upd H1 la (.tup (zs.map V.str)) = H2 at kl hla ⊢
    have hbe : ∀ e ∈ e1, belowE zs.length e := fun e he => (EN.ent e (hs1.subset he)).1
    have hbe2 : ∀ e ∈ e2, belowE zs.length e := fun e he => (EN.ent e (hs2.subset he)).1
    have l12 : e1.length ≤ 12 := Nat.le_trans hs1.length_le EN.len
    refine lcG (R := ET zs) (R2 := ET zs) (fun _ _ _ _ t h => h.tp t) (fun _ _ _ _ t h => h.tp t) (fun e => decide (e ∈ e2)) id (src_list (fun R q' => ⟨.ref o1, rfl, o1, RC, dx1, _, .ref m1, rfl, kl _ _ not0 ho1, RR.cl, RR.n2, rfl, q'⟩) (sq_l (kl _ _ not0 hm1))) (hus1.mono fun _ _ z => z.tp kl.tps) (by omega) (fun v e H3 N N0 he hv k3 hN hN0 => ?_) fun D us' H3 nD hD hrw k3 => ?_
    · refine ⟨by simp [wipe], ?_⟩
      have k13 := kl.trans k3
      try simp (maxSteps := 1000000) only [tSeq, tIfS, tTest, tOp, tUn, tCB, tCons, tNil, tVar, tC, rI0, rI, rU, rEq, rNe, tRet, tRetN, tAsg, gName, gSub, tBM, tBM0, tNext, tB, tNot, tAnd, tOr, tIf, tCall, tDrop, tBreak, tCont, L2.start, tDGet, sDPut, tTup, tLst, tDNewK, tRevL, rCat, rAppend, rPop, rSetL, tAndV, tOrV, tNotV, tSl, tPart, tNoPart, tM1, gTup, gCons, gNil, cxK, cxnK, List.map_cons, List.map_nil, List.length_cons, List.length_nil, List.replicate, List.cons_append, List.nil_append, List.append_nil, List.set_cons_zero, List.set_cons_succ, List.getElem?_cons_zero, List.getElem?_cons_succ, Option.some.injEq, V.ref.injEq, V.int.injEq, V.str.injEq, V.bl.injEq, V.ty.injEq, exists_eq_left', exists_eq_left, exists_and_left, List.cons.injEq, and_true, true_and, sc_ii, sc_ss, sc_bb, sc_ni, sc_in, sc_is, sc_si, sc_nn, decide_true, decide_false, reduceCtorEq, Bool.false_eq_true, if_true, if_false, ite_true, ite_false, exists_const, eq_self, false_and, and_false, or_false, false_or, exists_false, Evl.rLenS, rSum, wipe, tYes, exists_eq, exists_eq', rIxL, rIxT, rIxS, exists_and_right, gt_iff_lt, not_true_eq_false, not_false_eq_true, Bool.not_true, Bool.not_false, decide_eq_true_eq, Nat.reduceSub, Nat.reduceAdd, List.append_assoc, tChain, tDIn, tDNotIn, sDDel, tAug, ipI, rInt1_int, rInt1_bl, tFld]
      refine ⟨RC, dx2, _, k13 _ _ not0 ho2, RR.cl, RR.n2, .ref m2, rfl, ?_⟩
      refine in_ens L (hbe e he) hbe2 hv (sq_l (k13 _ _ not0 hm2)) (hus2.mono fun _ _ z => z.tp k13.tps) ⟨_, rfl, ?_⟩
      by_cases e1 : e ∈ e2
      · rw [decide_eq_true e1, if_pos rfl]
        exact hN (decide_eq_true e1) _ _ hv (Kp.refl _ _)
      · rw [decide_eq_false e1, if_neg (by decide)]
        exact hN0 (decide_eq_false e1) _ (Kp.refl _ _)
    · rw [List.map_id] at hrw
      have k13 := (k1.trans kl).trans k3
      have sub : (e1.filter fun e => decide (e ∈ e2)).Sublist (ens zs.length) := List.filter_sublist.trans hs1
      have hf := List.length_filter_le (fun e => decide (e ∈ e2)) e1
      exact mkR L (k3 _ _ not0 hla) (.inl (sq_l hD)) hrw (fun g hg => sub.subset hg) (by omega) fun o H' no hR kk => by
        rw [sub_filter sub EN.nd] at hR
        exact q o H' (k13.free0 no) hR (k13.trans kk)
end
end My

set_option Elab.async false
set_option linter.all false
set_option maxRecDepth 100000
set_option maxHeartbeats 4000000
namespace My
open PySem L2 NdefX StX
abbrev s_names_behind : Stmt := top 16
theorem sc_names_behind : FnScope ["name", "held", "locks", "behind", "other"] ["name", "held", "locks"] (defScope s_names_behind) := ⟨rfl, rfl, rfl, by decide +kernel, rfl, by decide +kernel, by decide +kernel⟩
abbrev s_Rule_every : Stmt := mtop 12 10
theorem sc_Rule_every : FnScope ["locks", "check"] ["locks"] (defScope s_Rule_every) := ⟨rfl, rfl, rfl, by decide +kernel, rfl, by decide +kernel, by decide +kernel⟩
abbrev s_Rule_rising : Stmt := mtop 12 11
theorem sc_Rule_rising : FnScope ["locks", "every", "held", "name"] ["locks"] (defScope s_Rule_rising) := ⟨rfl, rfl, rfl, by decide +kernel, rfl, by decide +kernel, by decide +kernel⟩
abbrev s_Rule_gate : Stmt := mtop 12 12
theorem sc_Rule_gate : FnScope ["locks", "every", "held", "name"] ["locks"] (defScope s_Rule_gate) := ⟨rfl, rfl, rfl, by decide +kernel, rfl, by decide +kernel, by decide +kernel⟩
/-- a value's truth -/
def tTr (K : PySem.W.Frag) (ta : TE) : TT := fun σ H Q => ta σ H fun x H' => ∃ k, TruV K x H' k ∧ Q k H'
theorem pt_truthK {X : Cx} {a : Expr} {ta : TE} {K : PySem.W.Frag} (ha : PE X a ta) (he : ∀ whole, isTrue a X.env whole = (do let v ← whole; standAt a.pos; holding [v] (truthy v))) (hK : X.K = K := by rfl) : PT X a (tTr K ta) := by
  subst hK
  exact pt_truth ha he
structure BtK (mg : Str → Option Value) (RC : Addr) : Prop where
  k_Rule : mg "Rule" = some (.ref RC)
def behindR (r : Nat) (h : Hd) : Hd := h.filter fun x => decide (r < x)
theorem mem_drop_nm {zs : List Str} (L : LkOk zs) {r x : Nat} (hx : x < zs.length) : nmL zs x ∈ zs.drop (r + 1) ↔ r < x := by
  constructor
  · intro h
    obtain ⟨j, ej⟩ := List.getElem?_of_mem h
    rw [List.getElem?_drop] at ej
    have : zs[r + 1 + j]? = zs[x]? := ej.trans (nm_at hx).symm
    obtain ⟨h1, h2⟩ := List.getElem?_eq_some_iff.mp ej
    obtain ⟨h3, h4⟩ := List.getElem?_eq_some_iff.mp (nm_at hx)
    have := (List.getElem_inj L.nd).mp (h2.trans h4.symm)
    omega
  · intro h
    exact List.mem_of_getElem? (i := x - (r + 1)) (by rw [List.getElem?_drop, show r + 1 + (x - (r + 1)) = x by omega]; exact nm_at hx)
section
variable {P : Program} {w : World} {K : PySem.W.Frag} {mg : Str → Option Value} {base : Heap} {tL t3 : Tok} {RC CC RG : Addr}
def spBehind (K : PySem.W.Frag) : Sp := fun vs H Q _ => ∃ (u : V) (a : Addr) (zs : List Str) (r : Nat) (h : Hd), vs = [.str (nmL zs r), u, .ref a] ∧ LkOk zs ∧ r < zs.length ∧ HT zs H u h ∧ below zs.length h ∧ h.length ≤ 10 ∧ LkAt K H a zs ∧ ∀ v H', HT zs H' v (behindR r h) → Kp [] H H' → Q v H'
theorem ok_names_behind {f : Addr} {fd : FuncData} (D : Df K mg "names_behind" s_names_behind ["name", "held", "locks"] f fd) (T : Bt mg tL t3) : FnOk P w K mg base CX0 1 f fd ["name", "held", "locks"] (spBehind K) := by
  refine D.F.ok sc_names_behind (fun vs H Q E h => ?_) (fun cdv A outer s H vs Q E hr h => ?_)
  · obtain ⟨_, _, _, _, _, rfl, _⟩ := h
    rfl
  · obtain ⟨u, a, zs, r, h, rfl, L, hr', ⟨ua, rfl, hu⟩, hb, h10, ha, q⟩ := h
    refine ⟨_, (pss_cons (ps_set (i := 3) sc_names_behind.nd rfl (Or.inr rfl) (pe_slice sl_list (pe_callTy call_list_of (by rfl) T.b_list (by decide +kernel) (pa_cons (pv 2) pa_nil)) (po_some (pe_op op_add (pe_bm PySem.F.plainAttrs_list PySem.F.slot_list_index PySem.F.type_list_index mt_index (pe_callTy call_list_of (by rfl) T.b_list (by decide +kernel) (pa_cons (pv 2) pa_nil)) (pa_cons (pv 0) pa_nil)) pe_int)) po_none))
      (pss_one (ps_ret (pe_callTy call_tuple_of (by rfl) T.b_tuple (by decide +kernel) (pa_cons (pe_lc (own := [("other", 4)]) (g := (gName 4)) rfl sc_names_behind.nd (pi_tup (pv 1)) (blkOk_by (N := ["name", "held", "locks", "behind", "other"]) (sc := defScope s_names_behind) (by decide +kernel)) (fun _ _ _ _ _ => (pg_name (i := 4) sc_names_behind.nd rfl (Or.inl rfl))) (fun _ _ _ _ _ => (pts_one (pt_cmpR (r := rIn K false) op_in_seq (pv 4) (pv 3) (by rfl)))) (fun _ _ _ _ _ => (pv 4))) pa_nil))))), ?_⟩
    try simp (maxSteps := 1000000) only [tSeq, tIfS, tTest, tOp, tUn, tCB, tCons, tNil, tVar, tC, rI0, rI, rU, rEq, rNe, tRet, tRetN, tAsg, gName, gSub, tBM, tBM0, tNext, tB, tNot, tAnd, tOr, tIf, tCall, tDrop, tBreak, tCont, L2.start, tDGet, sDPut, tTup, tLst, tDNewK, tRevL, rCat, rAppend, rPop, rSetL, tAndV, tOrV, tNotV, tSl, tPart, tNoPart, tM1, gTup, gCons, gNil, cxK, cxnK, List.map_cons, List.map_nil, List.length_cons, List.length_nil, List.replicate, List.cons_append, List.nil_append, List.append_nil, List.set_cons_zero, List.set_cons_succ, List.getElem?_cons_zero, List.getElem?_cons_succ, Option.some.injEq, V.ref.injEq, V.int.injEq, V.str.injEq, V.bl.injEq, V.ty.injEq, exists_eq_left', exists_eq_left, exists_and_left, List.cons.injEq, and_true, true_and, sc_ii, sc_ss, sc_bb, sc_ni, sc_in, sc_is, sc_si, sc_nn, decide_true, decide_false, reduceCtorEq, Bool.false_eq_true, if_true, if_false, ite_true, ite_false, exists_const, eq_self, false_and, and_false, or_false, false_or, exists_false, Evl.rLenS, rSum, wipe, tYes, exists_eq, exists_eq', rIxL, rIxT, rIxS, exists_and_right, gt_iff_lt, not_true_eq_false, not_false_eq_true, Bool.not_true, Bool.not_false, decide_eq_true_eq, Nat.reduceSub, Nat.reduceAdd, List.append_assoc, tChain, tDIn, tDNotIn, sDDel, tAug, ipI, rInt1_int, rInt1_bl]
    refine ⟨_, ha, fun l nl => ?_⟩
    have kl := (Kp.new nl : Kp [] H (upd H l (.lst (zs.map V.str))))
    refine ⟨_, LkAt.kp ha kl, fun l1 nl1 => ?_⟩
    have k1 := kl.trans (Kp.new nl1 (o := .lst (zs.map V.str)))
    have h1 : (upd (upd H l (.lst (zs.map V.str))) l1 (.lst (zs.map V.str))) l1 = some (.lst (zs.map V.str)) := upd_same
    have h0 := (Kp.new nl1 (S := []) (o := .lst (zs.map V.str))) _ _ not0 (upd_same (H := H) (a := l) (o := .lst (zs.map V.str)))
    generalize upd (upd H l (.lst (zs.map V.str))) l1 (.lst (zs.map V.str)) = H1 at k1 h1 h0 ⊢
    refine ⟨.inl ⟨rfl, _, sq_l h1⟩, l1, _, _, r, _, rfl, rfl, sq_l h1, rfl, flat_strs zs, by rw [List.getElem?_map, nm_at hr']; rfl, by simp [eqV], fun m z' hm hz => ?_, ?_⟩
    · rw [List.getElem?_map, nm_at (by omega)] at hz
      cases hz
      have : ¬ nmL zs m = nmL zs r := fun e => by have := nm_inj L (by omega) hr' e; omega
      exact beq_eq_false_iff_ne.mpr this
    refine ⟨(r : Int), rfl, l, _, rfl, sq_l h0, fun pb npb => ?_⟩
    rw [show ((r : Int) + 1) = ((r + 1 : Nat) : Int) from rfl, cut_from, ← List.map_drop]
    have k2 := k1.trans (Kp.new npb (o := .lst ((zs.drop (r + 1)).map V.str)))
    have h2 : (upd H1 pb (.lst ((zs.drop (r + 1)).map V.str))) pb = some (.lst ((zs.drop (r + 1)).map V.str)) := upd_same
    generalize upd H1 pb (.lst ((zs.drop (r + 1)).map V.str)) = H2 at k2 h2 ⊢
    refine lcG (R := fun _ v x => v = V.str (nmL zs x)) (R2 := fun _ v x => v = V.str (nmL zs x)) (fun _ _ _ _ _ h => h) (fun _ _ _ _ _ h => h) (fun x => decide (r < x)) id (src_tup (fun R q' => ⟨_, rfl, q'⟩) (sq_t (k2 _ _ not0 hu))) ht_rw (by omega) (fun v x H3 N N0 hx hv k3 hN hN0 => ?_) fun D us' H3 nD hD hrw k3 => ?_
    · subst hv
      have xn := hb x hx
      refine ⟨by simp [wipe], ?_⟩
      try simp (maxSteps := 1000000) only [tSeq, tIfS, tTest, tOp, tUn, tCB, tCons, tNil, tVar, tC, rI0, rI, rU, rEq, rNe, tRet, tRetN, tAsg, gName, gSub, tBM, tBM0, tNext, tB, tNot, tAnd, tOr, tIf, tCall, tDrop, tBreak, tCont, L2.start, tDGet, sDPut, tTup, tLst, tDNewK, tRevL, rCat, rAppend, rPop, rSetL, tAndV, tOrV, tNotV, tSl, tPart, tNoPart, tM1, gTup, gCons, gNil, cxK, cxnK, List.map_cons, List.map_nil, List.length_cons, List.length_nil, List.replicate, List.cons_append, List.nil_append, List.append_nil, List.set_cons_zero, List.set_cons_succ, List.getElem?_cons_zero, List.getElem?_cons_succ, Option.some.injEq, V.ref.injEq, V.int.injEq, V.str.injEq, V.bl.injEq, V.ty.injEq, exists_eq_left', exists_eq_left, exists_and_left, List.cons.injEq, and_true, true_and, sc_ii, sc_ss, sc_bb, sc_ni, sc_in, sc_is, sc_si, sc_nn, decide_true, decide_false, reduceCtorEq, Bool.false_eq_true, if_true, if_false, ite_true, ite_false, exists_const, eq_self, false_and, and_false, or_false, false_or, exists_false, Evl.rLenS, rSum, wipe, tYes, exists_eq, exists_eq', rIxL, rIxT, rIxS, exists_and_right, gt_iff_lt, not_true_eq_false, not_false_eq_true, Bool.not_true, Bool.not_false, decide_eq_true_eq, Nat.reduceSub, Nat.reduceAdd, List.append_assoc, tChain, tDIn, tDNotIn, sDDel, tAug, ipI, rInt1_int, rInt1_bl]
      refine ⟨pb, _, rfl, .inl (sq_l (k3 _ _ not0 h2)), rfl, flat_strs _, _, rfl, ?_⟩
      simp only [Bool.false_eq_true, if_false, inV_str]
      by_cases h : r < x
      · rw [decide_eq_true ((mem_drop_nm L xn).mpr h), if_pos rfl]
        exact hN (decide_eq_true h) _ _ rfl (Kp.refl _ _)
      · rw [decide_eq_false (fun e => h ((mem_drop_nm L xn).mp e)), if_neg (by decide)]
        exact hN0 (decide_eq_false h) _ (Kp.refl _ _)
    · rw [List.map_id] at hrw
      have e := rw_strs hrw
      refine ⟨D, rfl, us', .inl ⟨sq_l hD, fun t nt => ?_⟩⟩
      subst e
      exact q _ _ ⟨t, rfl, upd_same⟩ ((k2.trans k3).trans (Kp.new nt))
end
end My

set_option Elab.async false
set_option linter.all false
set_option maxRecDepth 100000
set_option maxHeartbeats 4000000
namespace My
open PySem L2 NdefX StX
/-- the usual rules, by places -/
def risR (n : Nat) : List En := (ens n).filter fun e => decide (behindR e.2 e.1 = [])
def gatR (n : Nat) : List En := (ens n).filter fun e => decide (e.1 = []) || decide (0 ∈ e.1)
section
variable {P : Program} {w : World} {K : PySem.W.Frag} {mg : Str → Option Value} {base : Heap} {tL t3 : Tok} {RC CC RG : Addr}
def spRuTN (RC : Addr) : Nat → Sp := fun n vs H Q _ => ∃ (o dx l m : Addr) (us : List V), vs = [.ref o] ∧ H o = some (.ins RC dx [("_locks", .ref l), ("_entries", .ref m)]) ∧ H m = some (.lst us) ∧ ∀ it, H it = none → n ≤ it → Q (.ref it) (upd H it (ItO m it 0))
theorem ok_Rule_iterN {f : Addr} {fd : FuncData} (F : Fun K "__iter__" "Rule.__iter__" s_Rule_iter f fd) (T : Bt mg tL t3) (RR : RuC K mg RC) : FnNew P w K mg base 1 f fd ["self"] (spRuTN RC) := by
  refine FnNew.ok F sc_Rule_iter (fun n vs H Q E h => ?_) (fun cdv A outer s H vs Q E hr h => ?_)
  · obtain ⟨_, _, _, _, _, rfl, _⟩ := h
    rfl
  · obtain ⟨o, dx, l, m, us, rfl, ho, hm, q⟩ := h
    refine ⟨_, (pss_one (ps_ret (pe_callB (id := "iter") (r := ItX.rIterN K s.heap.objs.size) ItX.call_iterN (by rfl) T.b_iter (by decide +kernel) (pa_cons (pe_fld (pv 0) rfl) pa_nil)))), ?_⟩
    try simp (maxSteps := 1000000) only [tSeq, tIfS, tTest, tOp, tUn, tCB, tCons, tNil, tVar, tC, rI0, rI, rU, rEq, rNe, tRet, tRetN, tAsg, gName, gSub, tBM, tBM0, tNext, tB, tNot, tAnd, tOr, tIf, tCall, tDrop, tBreak, tCont, L2.start, tDGet, sDPut, tTup, tLst, tDNewK, tRevL, rCat, rAppend, rPop, rSetL, tAndV, tOrV, tNotV, tSl, tPart, tNoPart, tM1, gTup, gCons, gNil, cxK, cxnK, List.map_cons, List.map_nil, List.length_cons, List.length_nil, List.replicate, List.cons_append, List.nil_append, List.append_nil, List.set_cons_zero, List.set_cons_succ, List.getElem?_cons_zero, List.getElem?_cons_succ, Option.some.injEq, V.ref.injEq, V.int.injEq, V.str.injEq, V.bl.injEq, V.ty.injEq, exists_eq_left', exists_eq_left, exists_and_left, List.cons.injEq, and_true, true_and, sc_ii, sc_ss, sc_bb, sc_ni, sc_in, sc_is, sc_si, sc_nn, decide_true, decide_false, reduceCtorEq, Bool.false_eq_true, if_true, if_false, ite_true, ite_false, exists_const, eq_self, false_and, and_false, or_false, false_or, exists_false, Evl.rLenS, rSum, wipe, tYes, exists_eq, exists_eq', rIxL, rIxT, rIxS, exists_and_right, gt_iff_lt, not_true_eq_false, not_false_eq_true, Bool.not_true, Bool.not_false, decide_eq_true_eq, Nat.reduceSub, Nat.reduceAdd, List.append_assoc, tChain, tDIn, tDNotIn, sDDel, tAug, ipI, rInt1_int, rInt1_bl, tFld]
    exact ⟨RC, dx, _, ho, RR.cl, RR.n2, .ref m, rfl, m, us, rfl, sq_l hm, fun it nit hn => q it nit hn⟩
/-- a comprehension over a rule -/
theorem src_own {te : TE} {σ : L2.St} {H : Hp} {o dx l m : Addr} {us : List V} (hv : ∀ R : VK, R (.ref o) H → te σ H R) (ho : H o = some (.ins RC dx [("_locks", .ref l), ("_entries", .ref m)])) (hm : H m = some (.lst us)) : WSrc K (iOwn K RC (spRuTN RC) E0 te) σ H m us :=
  .inl ⟨sq_l hm, fun R q' => hv _ ⟨o, dx, _, rfl, ho, fun n => ⟨o, dx, l, m, us, rfl, ho, hm, fun it nit hn => ⟨m, it, rfl, nit, hn, rfl, ⟨us, sq_l hm⟩, q'⟩⟩⟩⟩
theorem mkR2 {H : Hp} {la ea : Addr} {zs : List Str} {us : List V} {gs : List En} {Q : Addr → Hp → Prop} {E : XK} (L : LkOk zs) (hla : H la = some (.tup (zs.map V.str))) (hea : SqAny K H ea us) (hgs : Rw (ET zs H) us gs) (hin : ∀ g ∈ gs, g ∈ ens zs.length) (g100 : gs.length ≤ 100)
    (q : ∀ o H', H o = none → RuAt RC H' o zs ((ens zs.length).filter fun e => decide (e ∈ gs)) → Kp [] H H' → Q o H') (o dx : Addr) (no : H o = none) (ndx : H dx = none) (dxo : dx ≠ o) :
    spRuI RC K [.ref o, .ref la, .ref ea] (upd (upd H dx (.own o)) o (.ins RC dx [])) (fun v H2 => v = .non ∧ Q o H2) E := by
  have k : Kp [] H (upd (upd H dx (.own o)) o (.ins RC dx [])) := (Kp.new ndx).wr no
  refine ⟨o, dx, la, ea, zs, us, gs, rfl, upd_same, L, k _ _ not0 hla, hea.imp (k.ls not0) (k.tp not0), hgs.mono fun _ _ z => z.tp k.tps, hin, g100, fun H' hR kI => ⟨rfl, ?_⟩⟩
  exact q o H' no hR fun b ob _ e => (k.of0.trans kI) b ob (not1 fun z => by rw [z, no] at e; cases e) e
/-- a rule made by a name -/
def spMkN (RC : Addr) (rs : Nat → List En) : Sp := fun vs H Q _ => ∃ (la : Addr) (zs : List Str), vs = [.ref la] ∧ LkOk zs ∧ H la = some (.tup (zs.map V.str)) ∧ ∀ o H', H o = none → RuAt RC H' o zs (rs zs.length) → Kp [] H H' → Q (.ref o) H'
theorem ok_Rule_every {f : Addr} {fd : FuncData} (F : Fun K "every" "Rule.every" s_Rule_every f fd) (RR : RuC K mg RC) {de : Addr} {hdes : List Value} (hde : ∀ H : Hp, SqT K H de [])
    {f1 : Addr} {fd1 : FuncData} (D_all_entries : Df K mg "all_entries" s_all_entries ["locks"] f1 fd1) (G_all_entries : FnOk P w K mg base CX0 3 f1 fd1 ["locks"] (spEnts K))
    {fI fL : Addr} {fdI fdL : FuncData} (M_Rule : Mk K RC fI) (bI_Rule : Binds K fdI ["self", "locks", "entries"] []) (hd_Rule : Vals [.ref de] hdes) (bD_Rule : Binds K fdI ["self", "locks", "entries"] hdes) (G_Rule_init : FnOk P w K mg base CX0 4 fI fdI ["self", "locks", "entries"] (spRuI RC K))
    (ME_Rule_locks : Meth K RC "locks" fL) (bM_Rule_locks : Binds K fdL ["self"] []) (G_Rule_locks : FnOk P w K mg base CX0 1 fL fdL ["self"] (spRuL RC)) : FnOk P w K mg base CX0 6 f fd ["locks"] (spMkN RC ens) := by
  refine F.ok sc_Rule_every (fun vs H Q E h => ?_) (fun cdv A outer s H vs Q E hr h => ?_)
  · obtain ⟨_, _, rfl, _⟩ := h
    rfl
  · obtain ⟨la, zs, rfl, L, hla, q⟩ := h
    have EO := factE (n := zs.length) (by have := L.le; omega) L.pos
    refine ⟨_, (pss_cons (ps_set (i := 1) sc_Rule_every.nd rfl (Or.inl rfl) (pe_make M_Rule G_Rule_init (hr.mono (by decide)) rfl RR.k bD_Rule hd_Rule pass0 (pa_cons (pv 0) pa_nil)))
      (pss_one (ps_ret (pe_make M_Rule G_Rule_init (hr.mono (by decide)) rfl RR.k bI_Rule .nil pass0 (pa_cons (pv 0) (pa_cons (pe_call G_all_entries (hr.mono (by decide)) rfl D_all_entries.g D_all_entries.F.kp D_all_entries.b .nil pass0 (pa_cons (pe_meth0 (pv 1) RR.cl ME_Rule_locks G_Rule_locks (hr.mono (by decide)) bM_Rule_locks .nil pass0) pa_nil)) pa_nil)))))), ?_⟩
    try simp (maxSteps := 1000000) only [tSeq, tIfS, tTest, tOp, tUn, tCB, tCons, tNil, tVar, tC, rI0, rI, rU, rEq, rNe, tRet, tRetN, tAsg, gName, gSub, tBM, tBM0, tNext, tB, tNot, tAnd, tOr, tIf, tCall, tDrop, tBreak, tCont, L2.start, tDGet, sDPut, tTup, tLst, tDNewK, tRevL, rCat, rAppend, rPop, rSetL, tAndV, tOrV, tNotV, tSl, tPart, tNoPart, tM1, gTup, gCons, gNil, cxK, cxnK, List.map_cons, List.map_nil, List.length_cons, List.length_nil, List.replicate, List.cons_append, List.nil_append, List.append_nil, List.set_cons_zero, List.set_cons_succ, List.getElem?_cons_zero, List.getElem?_cons_succ, Option.some.injEq, V.ref.injEq, V.int.injEq, V.str.injEq, V.bl.injEq, V.ty.injEq, exists_eq_left', exists_eq_left, exists_and_left, List.cons.injEq, and_true, true_and, sc_ii, sc_ss, sc_bb, sc_ni, sc_in, sc_is, sc_si, sc_nn, decide_true, decide_false, reduceCtorEq, Bool.false_eq_true, if_true, if_false, ite_true, ite_false, exists_const, eq_self, false_and, and_false, or_false, false_or, exists_false, Evl.rLenS, rSum, wipe, tYes, exists_eq, exists_eq', rIxL, rIxT, rIxS, exists_and_right, gt_iff_lt, not_true_eq_false, not_false_eq_true, Bool.not_true, Bool.not_false, decide_eq_true_eq, Nat.reduceSub, Nat.reduceAdd, List.append_assoc, tChain, tDIn, tDNotIn, sDDel, tAug, ipI, rInt1_int, rInt1_bl, tMake, tMeth]
    refine mkR2 (K := K) (RC := RC) L hla (.inr (hde _)) (gs := []) .nil (fun g hg => nomatch hg) (Nat.zero_le _) fun o1 H1 no1 hR1 k1 => ?_
    obtain ⟨dx1, _, _, _, ho1, _⟩ := id hR1
    refine ⟨dx1, _, ho1, rfl, o1, zs, _, rfl, hR1, fun l2 H2 nl2 hl2 k2 => ?_⟩
    refine ⟨l2, zs, rfl, L, .inl (sq_l hl2), fun l3 us H3 nl3 hl3 hus k3 => ?_⟩
    have k03 := (k1.trans k2).trans k3
    refine mkR2 (K := K) (RC := RC) L (k03 _ _ not0 hla) (.inl (sq_l hl3)) hus (fun g hg => hg) (Nat.le_trans EO.len (by decide)) fun o4 H4 no4 hR4 k4 => ?_
    rw [sub_filter (List.Sublist.refl _) EO.nd] at hR4
    exact q o4 H4 (k03.free0 no4) hR4 (k03.trans k4)
theorem ok_Rule_rising {f : Addr} {fd : FuncData} (F : Fun K "rising" "Rule.rising" s_Rule_rising f fd) (RR : RuC K mg RC)
    {fE pE : Addr} {mc : Value} {fdE : FuncData} (T : BtK mg RC) (ST_Rule_every : StaC K RC mc "every" pE fE) (b_Rule_every : Binds K fdE ["locks"] []) (G_Rule_every : FnOk P w K mg base CX0 6 fE fdE ["locks"] (spMkN RC ens))
    {f1 : Addr} {fd1 : FuncData} (D_names_behind : Df K mg "names_behind" s_names_behind ["name", "held", "locks"] f1 fd1) (G_names_behind : FnOk P w K mg base CX0 1 f1 fd1 ["name", "held", "locks"] (spBehind K))
    {fI fT : Addr} {fdI fdT : FuncData} (M_Rule : Mk K RC fI) (bI_Rule : Binds K fdI ["self", "locks", "entries"] []) (G_Rule_init : FnOk P w K mg base CX0 4 fI fdI ["self", "locks", "entries"] (spRuI RC K))
    (IT_Rule : ItrC K RC fT) (b_Rule_iter : Binds K fdT ["self"] []) (G_Rule_iter : FnNew P w K mg base 1 fT fdT ["self"] (spRuTN RC)) : FnOk P w K mg base CX0 8 f fd ["locks"] (spMkN RC risR) := by
  refine F.ok sc_Rule_rising (fun vs H Q E h => ?_) (fun cdv A outer s H vs Q E hr h => ?_)
  · obtain ⟨_, _, rfl, _⟩ := h
    rfl
  · obtain ⟨la, zs, rfl, L, hla, q⟩ := h
    have EO := factE (n := zs.length) (by have := L.le; omega) L.pos
    refine ⟨_, (pss_cons (ps_set (i := 1) sc_Rule_rising.nd rfl (Or.inl rfl) (pe_sta (pe_glob (v := .ref RC) rfl T.k_Rule rfl) ST_Rule_every G_Rule_every (hr.mono (by decide)) b_Rule_every .nil pass0 (pa_cons (pv 0) pa_nil)))
      (pss_one (ps_ret (pe_make M_Rule G_Rule_init (hr.mono (by decide)) rfl RR.k bI_Rule .nil pass0 (pa_cons (pv 0) (pa_cons (pe_lc (own := [("held", 2), ("name", 3)]) (g := (gTup K 2 (gCons (gName 2) (gCons (gName 3) gNil)))) rfl sc_Rule_rising.nd (pi_own (E := E0) IT_Rule G_Rule_iter b_Rule_iter (hr.mono (by decide)) (pv 1)) (blkOk_by (N := ["locks", "every", "held", "name"]) (sc := defScope s_Rule_rising) (by decide +kernel)) (fun _ _ _ _ _ => (pg_tup (n := 2) (by rfl) (pgs_cons (pg_name (i := 2) sc_Rule_rising.nd rfl (Or.inl rfl)) (pgs_cons (pg_name (i := 3) sc_Rule_rising.nd rfl (Or.inl rfl)) pgs_nil)))) (fun _ _ _ _ _ => (pts_one (pt_not (pt_truthK (K := K) (pe_call G_names_behind (hr.mono (by decide)) rfl D_names_behind.g D_names_behind.F.kp D_names_behind.b .nil pass0 (pa_cons (pv 3) (pa_cons (pv 2) (pa_cons (pv 0) pa_nil)))) (by intro _; rfl))))) (fun _ _ _ _ _ => (pe_tup (pa_cons (pv 2) (pa_cons (pv 3) pa_nil))))) pa_nil)))))), ?_⟩
    try simp (maxSteps := 1000000) only [tSeq, tIfS, tTest, tOp, tUn, tCB, tCons, tNil, tVar, tC, rI0, rI, rU, rEq, rNe, tRet, tRetN, tAsg, gName, gSub, tBM, tBM0, tNext, tB, tNot, tAnd, tOr, tIf, tCall, tDrop, tBreak, tCont, L2.start, tDGet, sDPut, tTup, tLst, tDNewK, tRevL, rCat, rAppend, rPop, rSetL, tAndV, tOrV, tNotV, tSl, tPart, tNoPart, tM1, gTup, gCons, gNil, cxK, cxnK, List.map_cons, List.map_nil, List.length_cons, List.length_nil, List.replicate, List.cons_append, List.nil_append, List.append_nil, List.set_cons_zero, List.set_cons_succ, List.getElem?_cons_zero, List.getElem?_cons_succ, Option.some.injEq, V.ref.injEq, V.int.injEq, V.str.injEq, V.bl.injEq, V.ty.injEq, exists_eq_left', exists_eq_left, exists_and_left, List.cons.injEq, and_true, true_and, sc_ii, sc_ss, sc_bb, sc_ni, sc_in, sc_is, sc_si, sc_nn, decide_true, decide_false, reduceCtorEq, Bool.false_eq_true, if_true, if_false, ite_true, ite_false, exists_const, eq_self, false_and, and_false, or_false, false_or, exists_false, Evl.rLenS, rSum, wipe, tYes, exists_eq, exists_eq', rIxL, rIxT, rIxS, exists_and_right, gt_iff_lt, not_true_eq_false, not_false_eq_true, Bool.not_true, Bool.not_false, decide_eq_true_eq, Nat.reduceSub, Nat.reduceAdd, List.append_assoc, tChain, tDIn, tDNotIn, sDDel, tAug, ipI, rInt1_int, rInt1_bl, tMake, tMeth, tSta]
    refine ⟨la, zs, rfl, L, hla, fun o1 H1 no1 hR1 k1 => ?_⟩
    obtain ⟨dx1, l1, m1, us1, ho1, hl1, hm1, hus1, _, hs1⟩ := id hR1
    have hla1 := k1 _ _ not0 hla
    refine lcG (R := ET zs) (R2 := ET zs) (fun _ _ _ _ t h => h.tp t) (fun _ _ _ _ t h => h.tp t) (fun e => decide (behindR e.2 e.1 = [])) id (src_own (fun R q' => ⟨_, rfl, q'⟩) ho1 hm1) hus1 (Nat.le_trans EO.len (by decide)) (fun v e H2 N N0 he hv k2 hN hN0 => ?_) fun D us' H2 nD hD hrw k2 => ?_
    · obtain ⟨⟨be1, be2⟩, hh, _⟩ := EO.ent e he
      obtain ⟨_, h3, _⟩ := EO.hld _ hh
      obtain ⟨va, u, rfl, hva, hu⟩ := id hv
      try simp (maxSteps := 1000000) only [tSeq, tIfS, tTest, tOp, tUn, tCB, tCons, tNil, tVar, tC, rI0, rI, rU, rEq, rNe, tRet, tRetN, tAsg, gName, gSub, tBM, tBM0, tNext, tB, tNot, tAnd, tOr, tIf, tCall, tDrop, tBreak, tCont, L2.start, tDGet, sDPut, tTup, tLst, tDNewK, tRevL, rCat, rAppend, rPop, rSetL, tAndV, tOrV, tNotV, tSl, tPart, tNoPart, tM1, gTup, gCons, gNil, cxK, cxnK, List.map_cons, List.map_nil, List.length_cons, List.length_nil, List.replicate, List.cons_append, List.nil_append, List.append_nil, List.set_cons_zero, List.set_cons_succ, List.getElem?_cons_zero, List.getElem?_cons_succ, Option.some.injEq, V.ref.injEq, V.int.injEq, V.str.injEq, V.bl.injEq, V.ty.injEq, exists_eq_left', exists_eq_left, exists_and_left, List.cons.injEq, and_true, true_and, sc_ii, sc_ss, sc_bb, sc_ni, sc_in, sc_is, sc_si, sc_nn, decide_true, decide_false, reduceCtorEq, Bool.false_eq_true, if_true, if_false, ite_true, ite_false, exists_const, eq_self, false_and, and_false, or_false, false_or, exists_false, Evl.rLenS, rSum, wipe, tYes, exists_eq, exists_eq', rIxL, rIxT, rIxS, exists_and_right, gt_iff_lt, not_true_eq_false, not_false_eq_true, Bool.not_true, Bool.not_false, decide_eq_true_eq, Nat.reduceSub, Nat.reduceAdd, List.append_assoc, tChain, tDIn, tDNotIn, sDDel, tAug, ipI, rInt1_int, rInt1_bl, tTr]
      refine ⟨_, sq_t hva, rfl, _, _, rfl, _, _, rfl, rfl, ?_⟩
      refine ⟨u, la, zs, e.2, e.1, rfl, L, be2, hu, be1, by omega, .inr (sq_t (k2 _ _ not0 hla1)), fun b H3 hb k3 => ?_⟩
      obtain ⟨ba, rfl, hba⟩ := id hb
      refine ⟨_, .inr (.inl ⟨_, sq_t hba, rfl⟩), ?_⟩
      have hu3 := hu.tp k3.tps
      have fin : ∀ Hx t, Hx = upd H3 t (.tup [u, .str (nmL zs e.2)]) → H3 t = none → ET zs Hx (.ref t) e := fun Hx t ex nt => by
        subst ex
        exact ⟨t, u, rfl, upd_same, hu3.tp (Kp.new nt (S := [])).tps⟩
      cases hB : behindR e.2 e.1 with
      | nil =>
        rw [if_pos (by rfl)]
        refine ⟨by rw [sizeLine_eq]; decide, fun t nt => ?_⟩
        exact hN (by rw [hB]; rfl) _ _ (fin _ t rfl nt) (k3.trans (Kp.new nt))
      | cons x r =>
        rw [if_neg (by simp [nmH])]
        exact hN0 (by rw [hB]; rfl) _ k3
    · rw [List.map_id] at hrw
      have k02 := k1.trans k2
      have hf := List.length_filter_le (fun e : En => decide (behindR e.2 e.1 = [])) (ens zs.length)
      have l12 := EO.len
      have sub : (risR zs.length).Sublist (ens zs.length) := List.filter_sublist
      refine mkR2 (K := K) (RC := RC) L (k02 _ _ not0 hla) (.inl (sq_l hD)) hrw (fun g hg => sub.subset hg) (by omega) fun o4 H4 no4 hR4 k4 => ?_
      have := sub_filter sub EO.nd
      unfold risR at this
      rw [this] at hR4
      exact q o4 H4 (k02.free0 no4) hR4 (k02.trans k4)
theorem ok_Rule_gate {f : Addr} {fd : FuncData} (F : Fun K "gate" "Rule.gate" s_Rule_gate f fd) (RR : RuC K mg RC)
    {fE pE : Addr} {mc : Value} {fdE : FuncData} (T : BtK mg RC) (ST_Rule_every : StaC K RC mc "every" pE fE) (b_Rule_every : Binds K fdE ["locks"] []) (G_Rule_every : FnOk P w K mg base CX0 6 fE fdE ["locks"] (spMkN RC ens))
    {fI fT : Addr} {fdI fdT : FuncData} (M_Rule : Mk K RC fI) (bI_Rule : Binds K fdI ["self", "locks", "entries"] []) (G_Rule_init : FnOk P w K mg base CX0 4 fI fdI ["self", "locks", "entries"] (spRuI RC K))
    (IT_Rule : ItrC K RC fT) (b_Rule_iter : Binds K fdT ["self"] []) (G_Rule_iter : FnNew P w K mg base 1 fT fdT ["self"] (spRuTN RC)) : FnOk P w K mg base CX0 8 f fd ["locks"] (spMkN RC gatR) := by
  refine F.ok sc_Rule_gate (fun vs H Q E h => ?_) (fun cdv A outer s H vs Q E hr h => ?_)
  · obtain ⟨_, _, rfl, _⟩ := h
    rfl
  · obtain ⟨la, zs, rfl, L, hla, q⟩ := h
    have n1 := L.pos
    have EO := factE (n := zs.length) (by have := L.le; omega) L.pos
    refine ⟨_, (pss_cons (ps_set (i := 1) sc_Rule_gate.nd rfl (Or.inl rfl) (pe_sta (pe_glob (v := .ref RC) rfl T.k_Rule rfl) ST_Rule_every G_Rule_every (hr.mono (by decide)) b_Rule_every .nil pass0 (pa_cons (pv 0) pa_nil)))
      (pss_one (ps_ret (pe_make M_Rule G_Rule_init (hr.mono (by decide)) rfl RR.k bI_Rule .nil pass0 (pa_cons (pv 0) (pa_cons (pe_lc (own := [("held", 2), ("name", 3)]) (g := (gTup K 2 (gCons (gName 2) (gCons (gName 3) gNil)))) rfl sc_Rule_gate.nd (pi_own (E := E0) IT_Rule G_Rule_iter b_Rule_iter (hr.mono (by decide)) (pv 1)) (blkOk_by (N := ["locks", "every", "held", "name"]) (sc := defScope s_Rule_gate) (by decide +kernel)) (fun _ _ _ _ _ => (pg_tup (n := 2) (by rfl) (pgs_cons (pg_name (i := 2) sc_Rule_gate.nd rfl (Or.inl rfl)) (pgs_cons (pg_name (i := 3) sc_Rule_gate.nd rfl (Or.inl rfl)) pgs_nil)))) (fun _ _ _ _ _ => (pts_one (PW.pt (pw_or (pt_not (pt_truthK (K := K) (pv 2) (by intro _; rfl))) (pw_or1 (pt_cmpR (r := rIn K false) op_in_seq (pe_ix (r := rIxT K) ix_tup (pv 0) pe_int (fun _ _ => rfl)) (pv 2) (by rfl))))))) (fun _ _ _ _ _ => (pe_tup (pa_cons (pv 2) (pa_cons (pv 3) pa_nil))))) pa_nil)))))), ?_⟩
    try simp (maxSteps := 1000000) only [tSeq, tIfS, tTest, tOp, tUn, tCB, tCons, tNil, tVar, tC, rI0, rI, rU, rEq, rNe, tRet, tRetN, tAsg, gName, gSub, tBM, tBM0, tNext, tB, tNot, tAnd, tOr, tIf, tCall, tDrop, tBreak, tCont, L2.start, tDGet, sDPut, tTup, tLst, tDNewK, tRevL, rCat, rAppend, rPop, rSetL, tAndV, tOrV, tNotV, tSl, tPart, tNoPart, tM1, gTup, gCons, gNil, cxK, cxnK, List.map_cons, List.map_nil, List.length_cons, List.length_nil, List.replicate, List.cons_append, List.nil_append, List.append_nil, List.set_cons_zero, List.set_cons_succ, List.getElem?_cons_zero, List.getElem?_cons_succ, Option.some.injEq, V.ref.injEq, V.int.injEq, V.str.injEq, V.bl.injEq, V.ty.injEq, exists_eq_left', exists_eq_left, exists_and_left, List.cons.injEq, and_true, true_and, sc_ii, sc_ss, sc_bb, sc_ni, sc_in, sc_is, sc_si, sc_nn, decide_true, decide_false, reduceCtorEq, Bool.false_eq_true, if_true, if_false, ite_true, ite_false, exists_const, eq_self, false_and, and_false, or_false, false_or, exists_false, Evl.rLenS, rSum, wipe, tYes, exists_eq, exists_eq', rIxL, rIxT, rIxS, exists_and_right, gt_iff_lt, not_true_eq_false, not_false_eq_true, Bool.not_true, Bool.not_false, decide_eq_true_eq, Nat.reduceSub, Nat.reduceAdd, List.append_assoc, tChain, tDIn, tDNotIn, sDDel, tAug, ipI, rInt1_int, rInt1_bl, tMake, tMeth, tSta]
    refine ⟨la, zs, rfl, L, hla, fun o1 H1 no1 hR1 k1 => ?_⟩
    obtain ⟨dx1, l1, m1, us1, ho1, hl1, hm1, hus1, _, hs1⟩ := id hR1
    have hla1 := k1 _ _ not0 hla
    refine lcG (R := ET zs) (R2 := ET zs) (fun _ _ _ _ t h => h.tp t) (fun _ _ _ _ t h => h.tp t) (fun e => decide (e.1 = []) || decide (0 ∈ e.1)) id (src_own (fun R q' => ⟨_, rfl, q'⟩) ho1 hm1) hus1 (Nat.le_trans EO.len (by decide)) (fun v e H2 N N0 he hv k2 hN hN0 => ?_) fun D us' H2 nD hD hrw k2 => ?_
    · obtain ⟨⟨be1, be2⟩, hh, _⟩ := EO.ent e he
      obtain ⟨_, h3, _⟩ := EO.hld _ hh
      obtain ⟨va, u, rfl, hva, hu⟩ := id hv
      obtain ⟨ba, rfl, hba⟩ := id hu
      have fin : ∀ Hx t, Hx = upd H2 t (.tup [.ref ba, .str (nmL zs e.2)]) → H2 t = none → ET zs Hx (.ref t) e := fun Hx t ex nt => by
        subst ex
        exact ⟨t, _, rfl, upd_same, hu.tp (Kp.new nt (S := [])).tps⟩
      have i0 : atI (zs.map V.str) 0 = some (.str (nmL zs 0)) := (show atI _ ((0 : Nat) : Int) = _ from atI_nat (by rw [List.getElem?_map, nm_at (by omega)]; rfl))
      try simp (maxSteps := 1000000) only [tSeq, tIfS, tTest, tOp, tUn, tCB, tCons, tNil, tVar, tC, rI0, rI, rU, rEq, rNe, tRet, tRetN, tAsg, gName, gSub, tBM, tBM0, tNext, tB, tNot, tAnd, tOr, tIf, tCall, tDrop, tBreak, tCont, L2.start, tDGet, sDPut, tTup, tLst, tDNewK, tRevL, rCat, rAppend, rPop, rSetL, tAndV, tOrV, tNotV, tSl, tPart, tNoPart, tM1, gTup, gCons, gNil, cxK, cxnK, List.map_cons, List.map_nil, List.length_cons, List.length_nil, List.replicate, List.cons_append, List.nil_append, List.append_nil, List.set_cons_zero, List.set_cons_succ, List.getElem?_cons_zero, List.getElem?_cons_succ, Option.some.injEq, V.ref.injEq, V.int.injEq, V.str.injEq, V.bl.injEq, V.ty.injEq, exists_eq_left', exists_eq_left, exists_and_left, List.cons.injEq, and_true, true_and, sc_ii, sc_ss, sc_bb, sc_ni, sc_in, sc_is, sc_si, sc_nn, decide_true, decide_false, reduceCtorEq, Bool.false_eq_true, if_true, if_false, ite_true, ite_false, exists_const, eq_self, false_and, and_false, or_false, false_or, exists_false, Evl.rLenS, rSum, wipe, tYes, exists_eq, exists_eq', rIxL, rIxT, rIxS, exists_and_right, gt_iff_lt, not_true_eq_false, not_false_eq_true, Bool.not_true, Bool.not_false, decide_eq_true_eq, Nat.reduceSub, Nat.reduceAdd, List.append_assoc, tChain, tDIn, tDNotIn, sDDel, tAug, ipI, rInt1_int, rInt1_bl, tTr]
      refine ⟨_, sq_t hva, rfl, _, _, rfl, _, _, rfl, rfl, ?_⟩
      refine ⟨_, .inr (.inl ⟨_, sq_t hba, rfl⟩), ?_⟩
      cases hB : e.1 with
      | nil =>
        rw [if_pos (by rfl)]
        refine ⟨by rw [sizeLine_eq]; decide, fun t nt => ?_⟩
        exact hN (by rw [hB]; rfl) _ _ (fin _ t rfl nt) (Kp.new nt)
      | cons x r =>
        rw [if_neg (by simp [nmH])]
        refine ⟨_, sq_t (k2 _ _ not0 hla1), _, i0, ?_⟩
        refine in_nm L n1 be1 (sq_t hba) ⟨_, rfl, ?_⟩
        by_cases h0 : 0 ∈ e.1
        · rw [decide_eq_true h0, if_pos rfl]
          exact ⟨by rw [sizeLine_eq]; decide, fun t nt => hN (by rw [decide_eq_true h0, Bool.or_true]) _ _ (fin _ t rfl nt) (Kp.new nt)⟩
        · rw [decide_eq_false h0, if_neg (by decide)]
          exact hN0 (by rw [decide_eq_false h0, Bool.or_false]; exact decide_eq_false (by rw [hB]; simp)) _ (Kp.refl _ _)
    · rw [List.map_id] at hrw
      have k02 := k1.trans k2
      have hf := List.length_filter_le (fun e : En => decide (e.1 = []) || decide (0 ∈ e.1)) (ens zs.length)
      have l12 := EO.len
      have sub : (gatR zs.length).Sublist (ens zs.length) := List.filter_sublist
      refine mkR2 (K := K) (RC := RC) L (k02 _ _ not0 hla) (.inl (sq_l hD)) hrw (fun g hg => sub.subset hg) (by omega) fun o4 H4 no4 hR4 k4 => ?_
      have := sub_filter sub EO.nd
      unfold gatR at this
      rw [this] at hR4
      exact q o4 H4 (k02.free0 no4) hR4 (k02.trans k4)
end
end My

set_option Elab.async false
set_option linter.all false
set_option maxRecDepth 100000
set_option maxHeartbeats 4000000
namespace My
open PySem L2 NdefX StX
abbrev s_law_is_rule : Stmt := top 33
theorem sc_law_is_rule : FnScope ["_law_rule", "_law_locks", "_law_due", "_law_held", "_law_lock"] ["_law_rule", "_law_locks", "_law_due"] (defScope s_law_is_rule) := ⟨rfl, rfl, rfl, by decide +kernel, rfl, by decide +kernel, by decide +kernel⟩
abbrev s_law_rising : Stmt := top 34
theorem sc_law_rising : FnScope ["_law_locks", "_law_order", "_law_due", "_law_entry", "_law_behind", "_law_lock"] ["_law_locks", "_law_order"] (defScope s_law_rising) := ⟨rfl, rfl, rfl, by decide +kernel, rfl, by decide +kernel, by decide +kernel⟩
abbrev s_law_gate : Stmt := top 35
theorem sc_law_gate : FnScope ["_law_locks", "_law_first", "_law_entry"] ["_law_locks", "_law_first"] (defScope s_law_gate) := ⟨rfl, rfl, rfl, by decide +kernel, rfl, by decide +kernel, by decide +kernel⟩
def EnAt (H : Hp) (a : Addr) (zs : List Str) (es : List En) : Prop := ∃ us, H a = some (.lst us) ∧ Rw (ET zs H) us es ∧ es.Sublist (ens zs.length)
theorem EnAt.kp {H H' : Hp} {a : Addr} {zs : List Str} {es : List En} (h : EnAt H a zs es) (k : Kp [] H H') : EnAt H' a zs es := by
  obtain ⟨us, h1, h2, h3⟩ := h
  exact ⟨us, k _ _ not0 h1, h2.mono fun _ _ z => z.tp k.tps, h3⟩
structure BtY (mg : Str → Option Value) (RC : Addr) : Prop where
  b_len : mg "len" = none
  b_list : mg "list" = none
  b_isinstance : mg "isinstance" = none
  k_Rule : mg "Rule" = some (.ref RC)
theorem ens_at0 : ∀ n, n < 4 → ∀ h ∈ hls n, (ens n).filter (fun e => decide (e.1 = h)) = entsOf n h := by decide +kernel
theorem mem_entsOf {n : Nat} {h : Hd} {r : Nat} (m : (h, r) ∈ ens n) : r ∉ h := by
  unfold ens at m
  obtain ⟨h', _, m'⟩ := List.mem_flatMap.mp m
  unfold entsOf at m'
  obtain ⟨x, hx, e⟩ := List.mem_map.mp m'
  cases e
  have := (List.mem_filter.mp hx).2
  simpa using this
theorem may_range {n : Nat} {es : List En} {h : Hd} (n3 : n < 4) (hh : h ∈ hls n) (nd : (ens n).Nodup) (hes : es.Sublist (ens n)) : mayR es h = (List.range n).filter fun r => decide ((h, r) ∈ es) := by
  unfold mayR
  have e0 : es.filter (fun e => decide (e.1 = h)) = (entsOf n h).filter fun e => decide (e ∈ es) := by
    rw [← ens_at0 n n3 h hh, List.filter_filter]
    conv => lhs; rw [← sub_filter hes nd, List.filter_filter]
    congr 1
    funext e
    rw [Bool.and_comm]
  rw [e0]
  unfold entsOf
  rw [List.filter_map, List.map_map, List.filter_filter]
  rw [show ((fun x : En => x.2) ∘ fun r => (h, r)) = id from rfl, List.map_id]
  refine List.filter_congr fun r _ => ?_
  by_cases m : (h, r) ∈ es
  · have := mem_entsOf (hes.subset m)
    simp [m, this]
  · simp [m]
theorem ne_ents {K : PySem.W.Frag} {zs : List Str} {es : List En} {H : Hp} {p ea : Addr} {ws : List V} {Q : VK} (L : LkOk zs) (hp : H p = some (.lst ws)) (hws : Rw (ET zs H) ws es) (hE : EnAt H ea zs es) (q : Q (.bl false) H) : rNeD K (.ref p) (.ref ea) H Q := by
  obtain ⟨ue, hea, hue, hes⟩ := hE
  have E := factE (n := zs.length) (by have := L.le; omega) L.pos
  have hbe : ∀ e ∈ es, belowE zs.length e := fun e he => (E.ent e (hes.subset he)).1
  have shE : SeqAt.shaped (.list (es.map (eD zs))) = true := (fk_lst (k := 3) fun d hd => by
    obtain ⟨g, hg', rfl⟩ := List.mem_map.mp hd
    exact fk_eD L (hbe g hg')).sh (by decide)
  refine ⟨_, _, .lst (sq_l hp) (rw_dp (fun _ _ z => z.dp) hws), .lst (sq_l hea) (rw_dp (fun _ _ z => z.dp) hue), shE, shE, ?_⟩
  rw [SeqAt.eqv_refl _ (SeqAt.canLay_of_shaped shE)]
  exact q
theorem ne_strs {K : PySem.W.Frag} {zs : List Str} {H : Hp} {p l : Addr} {Q : VK} (L : ∀ z ∈ zs, nameS z = true) (hp : H p = some (.lst (zs.map V.str))) (hl : H l = some (.lst (zs.map V.str))) (q : Q (.bl false) H) : rNeD K (.ref p) (.ref l) H Q := by
  have sh : SeqAt.shaped ((PyData.list (zs.map PyData.str))) = true := (fk_lst (k := 1) fun d hd => by
    obtain ⟨z, hz, rfl⟩ := List.mem_map.mp hd
    exact fk_name (L z hz)).sh (by decide)
  refine ⟨_, _, .lst (sq_l hp) (dpStrs zs), .lst (sq_l hl) (dpStrs zs), sh, sh, ?_⟩
  show Q (.bl (!(PyData.eqv ((PyData.list (zs.map PyData.str))) ((PyData.list (zs.map PyData.str)))))) H
  rw [SeqAt.eqv_refl _ (SeqAt.canLay_of_shaped sh)]
  exact q
theorem list_ru {K : PySem.W.Frag} {RC o : Addr} {H : Hp} {zs : List Str} {es : List En} {Q : VK} (hR : RuAt RC H o zs es) (q : ∀ p ws H', H p = none → H' p = some (.lst ws) → Rw (ET zs H') ws es → Kp [] H H' → Q (.ref p) H') : rListO K RC (spRuT RC) (spRuN RC) E0 [.ref o] H Q := by
  obtain ⟨dx, ll, l, us, ho, hll, hl, hus, L, hs⟩ := id hR
  refine ⟨o, dx, _, rfl, ho, fun p np => ?_⟩
  have k1 : Kp [] H (upd H p (.lst [])) := Kp.new np
  have hp1 : (upd H p (.lst [])) p = some (.lst []) := upd_same
  generalize upd H p (.lst []) = H1 at k1 hp1 ⊢
  refine ⟨o, dx, ll, l, us, rfl, k1 _ _ not0 ho, k1 _ _ not0 hl, fun it nit => ?_⟩
  have k2 : Kp [] H1 (upd H1 it (ItO l it 0)) := Kp.new nit
  have hit : (upd H1 it (ItO l it 0)) it = some (ItO l it 0) := upd_same
  generalize upd H1 it (ItO l it 0) = H2 at k2 hit ⊢
  have k12 := k1.trans k2
  have hl2 := k12 _ _ not0 hl
  have hp2 := k2 _ _ not0 hp1
  have lp : l ≠ p := ne_of_none hl np
  have li : l ≠ it := ne_of_none (k1 _ _ not0 hl) nit
  have pi : p ≠ it := ne_of_none hp1 nit
  have kf : Kp [] H (upd (upd H2 it (junk it)) p (.lst us)) := (k12.wr (k1.free0 nit)).wr np
  have E := factE (n := zs.length) (by have := L.le; omega) L.pos
  have l12 : es.length ≤ 12 := Nat.le_trans hs.length_le E.len
  refine ⟨l, it, us, rfl, k12 _ _ not0 ho, hit, sq_l hl2, lp, li, hp2, o, zs, es, rfl, hR.kp k12, es.length, rfl, small (by omega), hit, sq_l hl2, hp2, ?_⟩
  exact q p us _ np upd_same (hus.mono fun _ _ z => z.tp kf.tps) kf
theorem isi_own {K : PySem.W.Frag} {RG r dx : Addr} {fs : List (Str × V)} {H : Hp} {Q : VK} (IC : C8.InsC K RG) (hr : H r = some (.ins RG dx fs)) (q : Q (.bl true) H) : rIsi K [.ref r, .ref RG] H Q := ⟨.ref r, .ref RG, .ref RG, .ref RG, true, rfl, .own _, .base (.ins hr IC.cl IC.ha IC.hn IC.htk IC.hm), IC.me, q⟩
section
variable {P : Program} {w : World} {K : PySem.W.Frag} {mg : Str → Option Value} {base : Heap} {tL t3 : Tok} {RC CC RG : Addr}
def spIsR (K : PySem.W.Frag) (RC : Addr) : Sp := fun vs H Q _ => ∃ (o a d : Addr) (zs : List Str) (es : List En), vs = [.ref o, .ref a, .ref d] ∧ RuAt RC H o zs es ∧ LkAt K H a zs ∧ EnAt H d zs es ∧ ∀ H', Kp [] H H' → Q (.bl true) H'
theorem ok_law_is_rule {f : Addr} {fd : FuncData} (D : Df K mg "_law_is_rule" s_law_is_rule ["_law_rule", "_law_locks", "_law_due"] f fd) (T : BtY mg RC) (RR : RuC K mg RC) (IC : C8.InsC K RC)
    {f1 : Addr} {fd1 : FuncData} (D_law_helds : Df K mg "_law_helds" s_law_helds ["_law_locks"] f1 fd1) (G_law_helds : FnOk P w K mg base CX0 1 f1 fd1 ["_law_locks"] (spLHelds K))
    {fL fN fT fG : Addr} {fdL fdN fdT fdG : FuncData} (ME_Rule_locks : Meth K RC "locks" fL) (bM_Rule_locks : Binds K fdL ["self"] []) (G_Rule_locks : FnOk P w K mg base CX0 1 fL fdL ["self"] (spRuL RC))
    (IT_Rule : IterC K RC fT fN) (b_Rule_iter : Binds K fdT ["self"] []) (G_Rule_iter : FnOk P w K mg base CX0 1 fT fdT ["self"] (spRuT RC)) (LN_Rule : LenC K RC fN) (b_Rule_len : Binds K fdN ["self"] []) (G_Rule_len : FnOk P w K mg base CX0 1 fN fdN ["self"] (spRuN RC))
    (GT_Rule : GetC K RC fG) (b_Rule_getitem : Binds K fdG ["self", "at"] []) (G_Rule_getitem : FnOk P w K mg base CX0 3 fG fdG ["self", "at"] (spRuG RC)) : FnOk P w K mg base CX0 5 f fd ["_law_rule", "_law_locks", "_law_due"] (spIsR K RC) := by
  refine D.F.ok sc_law_is_rule (fun vs H Q E h => ?_) (fun cdv A outer s H vs Q E hr h => ?_)
  · obtain ⟨_, _, _, _, _, rfl, _⟩ := h
    rfl
  · obtain ⟨o, a, d, zs, es, rfl, hR, ha, hE, q⟩ := h
    have hu := hu_of hr
    refine ⟨_, (pss_cons (ps_if (PW.pt (pw_or (pt_not (pt_val (pe_callB (id := "isinstance") (r := rIsi K) call_isi (by rfl) T.b_isinstance (by decide +kernel) (pa_cons (pv 0) (pa_cons (pe_glob (v := .ref RC) rfl T.k_Rule rfl) pa_nil))))) (pw_or (pt_cmpR (op_neD hr.units) (pe_meth0 (pv 0) RR.cl ME_Rule_locks G_Rule_locks (hr.mono (by decide)) bM_Rule_locks .nil pass0) (pe_callTy call_list_of (by rfl) T.b_list (by decide +kernel) (pa_cons (pv 1) pa_nil)) (nomark _)) (pw_or (pt_cmpR op_ne (pe_callB (id := "len") (call_lenO LN_Rule G_Rule_len b_Rule_len (hr.mono (by decide)) pass0) (by rfl) T.b_len PySem.boot_len (pa_cons (pv 0) pa_nil)) (pe_callB (id := "len") (r := Evl.rLenS K) call_len_seq (by rfl) T.b_len PySem.boot_len (pa_cons (pv 2) pa_nil)) (nomark _)) (pw_or1 (pt_cmpR (op_neD hr.units) (pe_callTy (T := "list") (call_listO (E := E0) IT_Rule G_Rule_iter b_Rule_iter G_Rule_len b_Rule_len (hr.mono (by decide))) (by rfl) T.b_list (by decide +kernel) (pa_cons (pv 0) pa_nil)) (pv 2) (nomark _))))))) (pss_one (ps_ret pe_bl)) pss_nil)
      (pss_cons (ps_for PassesOwn.never rfl (pi_list (pe_call G_law_helds (hr.mono (by decide)) rfl D_law_helds.g D_law_helds.F.kp D_law_helds.b .nil pass0 (pa_cons (pv 1) pa_nil))) (pg_name (i := 3) sc_law_is_rule.nd rfl (Or.inr rfl)) (pss_one (ps_if (pt_cmpR (op_neD hr.units) (pe_getO GT_Rule G_Rule_getitem b_Rule_getitem (hr.mono (by decide)) pass0 (pv 0) (pv 3)) (pe_lc (own := [("_law_lock", 4)]) (g := (gName 4)) rfl sc_law_is_rule.nd (pi_seq (pv 1)) (blkOk_by (N := ["_law_rule", "_law_locks", "_law_due", "_law_held", "_law_lock"]) (sc := defScope s_law_is_rule) (by decide +kernel)) (fun _ _ _ _ _ => (pg_name (i := 4) sc_law_is_rule.nd rfl (Or.inl rfl))) (fun _ _ _ _ _ => (pts_one (pt_cmpR (r := rInD K) (op_inD (hu5 hr)) (pe_tup (pa_cons (pv 3) (pa_cons (pv 4) pa_nil))) (pv 2) (by rfl)))) (fun _ _ _ _ _ => (pv 4))) (nomark _)) (pss_one (ps_ret pe_bl)) pss_nil)))
      (pss_one (ps_ret pe_bl)))), ?_⟩
    try simp (maxSteps := 1000000) only [tSeq, tIfS, tTest, tOp, tUn, tCB, tCons, tNil, tVar, tC, rI0, rI, rU, rEq, rNe, tRet, tRetN, tAsg, gName, gSub, tBM, tBM0, tNext, tB, tNot, tAnd, tOr, tIf, tCall, tDrop, tBreak, tCont, L2.start, tDGet, sDPut, tTup, tLst, tDNewK, tRevL, rCat, rAppend, rPop, rSetL, tAndV, tOrV, tNotV, tSl, tPart, tNoPart, tM1, gTup, gCons, gNil, cxK, cxnK, List.map_cons, List.map_nil, List.length_cons, List.length_nil, List.replicate, List.cons_append, List.nil_append, List.append_nil, List.set_cons_zero, List.set_cons_succ, List.getElem?_cons_zero, List.getElem?_cons_succ, Option.some.injEq, V.ref.injEq, V.int.injEq, V.str.injEq, V.bl.injEq, V.ty.injEq, exists_eq_left', exists_eq_left, exists_and_left, List.cons.injEq, and_true, true_and, sc_ii, sc_ss, sc_bb, sc_ni, sc_in, sc_is, sc_si, sc_nn, decide_true, decide_false, reduceCtorEq, Bool.false_eq_true, if_true, if_false, ite_true, ite_false, exists_const, eq_self, false_and, and_false, or_false, false_or, exists_false, Evl.rLenS, rSum, wipe, tYes, exists_eq, exists_eq', rIxL, rIxT, rIxS, exists_and_right, gt_iff_lt, not_true_eq_false, not_false_eq_true, Bool.not_true, Bool.not_false, decide_eq_true_eq, Nat.reduceSub, Nat.reduceAdd, List.append_assoc, tChain, tDIn, tDNotIn, sDDel, tAug, ipI, rInt1_int, rInt1_bl, tMeth, rLenO]
    obtain ⟨dx, lk, m, us, ho, hlk, hm, hus, L, hs⟩ := id hR
    have n1 := L.pos
    have n3 := L.le
    have EO := factE (n := zs.length) (by omega) n1
    have hbe : ∀ e ∈ es, belowE zs.length e := fun e he => (EO.ent e (hs.subset he)).1
    have l12 : es.length ≤ 12 := Nat.le_trans hs.length_le EO.len
    refine isi_own IC ho ⟨true, rfl, ?_⟩
    rw [if_neg (by decide)]
    refine ⟨dx, _, ho, rfl, o, zs, es, rfl, hR, fun l1 H1 nl1 hl1 k1 => ?_⟩
    refine ⟨_, LkAt.kp ha k1, fun l2 nl2 => ?_⟩
    have k2 := (Kp.new nl2 : Kp [] H1 (upd H1 l2 (.lst (zs.map V.str))))
    refine ne_strs L.nm (k2 _ _ not0 hl1) upd_same ⟨false, rfl, ?_⟩
    rw [if_neg (by decide)]
    have k12 := k1.trans k2
    generalize upd H1 l2 (.lst (zs.map V.str)) = H2 at k12 ⊢
    refine ⟨⟨dx, _, k12 _ _ not0 ho⟩, o, zs, es, rfl, hR.kp k12, es.length, rfl, small (by omega), ?_⟩
    obtain ⟨ue, hea, hue, hes⟩ := hE.kp k12
    refine ⟨_, .inl (sq_l hea), ?_⟩
    rw [hue.len, decide_eq_true rfl, if_neg (by decide)]
    refine list_ru (hR.kp k12) fun p ws H3 np hp hws k3 => ?_
    have k13 := k12.trans k3
    refine ne_ents L hp hws (hE.kp k13) ⟨false, rfl, ?_⟩
    rw [if_neg (by decide)]
    refine forL_src ?_
    try simp (maxSteps := 1000000) only [tSeq, tIfS, tTest, tOp, tUn, tCB, tCons, tNil, tVar, tC, rI0, rI, rU, rEq, rNe, tRet, tRetN, tAsg, gName, gSub, tBM, tBM0, tNext, tB, tNot, tAnd, tOr, tIf, tCall, tDrop, tBreak, tCont, L2.start, tDGet, sDPut, tTup, tLst, tDNewK, tRevL, rCat, rAppend, rPop, rSetL, tAndV, tOrV, tNotV, tSl, tPart, tNoPart, tM1, gTup, gCons, gNil, cxK, cxnK, List.map_cons, List.map_nil, List.length_cons, List.length_nil, List.replicate, List.cons_append, List.nil_append, List.append_nil, List.set_cons_zero, List.set_cons_succ, List.getElem?_cons_zero, List.getElem?_cons_succ, Option.some.injEq, V.ref.injEq, V.int.injEq, V.str.injEq, V.bl.injEq, V.ty.injEq, exists_eq_left', exists_eq_left, exists_and_left, List.cons.injEq, and_true, true_and, sc_ii, sc_ss, sc_bb, sc_ni, sc_in, sc_is, sc_si, sc_nn, decide_true, decide_false, reduceCtorEq, Bool.false_eq_true, if_true, if_false, ite_true, ite_false, exists_const, eq_self, false_and, and_false, or_false, false_or, exists_false, Evl.rLenS, rSum, wipe, tYes, exists_eq, exists_eq', rIxL, rIxT, rIxS, exists_and_right, gt_iff_lt, not_true_eq_false, not_false_eq_true, Bool.not_true, Bool.not_false, decide_eq_true_eq, Nat.reduceSub, Nat.reduceAdd, List.append_assoc, tChain, tDIn, tDNotIn, sDDel, tAug, ipI, rInt1_int, rInt1_bl]
    refine ⟨a, zs, rfl, L, LkAt.kp ha k13, fun l hu H4 nl hl hhu k4 => ?_⟩
    have k14 := k13.trans k4
    refine forLC (fun j σ H' => ∃ (c3 c4 : Option V), σ = [some (.ref o), some (.ref a), some (.ref d), c3, c4] ∧ Kp [] H4 H') (sq_l hl) ⟨_, _, rfl, Kp.refl _ _⟩ (fun j σ H' _ h => by obtain ⟨_, _, _, k⟩ := h; exact sq_l (k _ _ not0 hl)) ?_ ?_
    · rintro j x σ H5 hj ⟨c3, c4, rfl, k5⟩
      obtain ⟨h, hh, hx⟩ := hhu.get hj
      have hm' := List.mem_of_getElem? hh
      obtain ⟨hb, h3, _⟩ := EO.hld h hm'
      have k15 := k14.trans k5
      have hx5 := hx.tp k5.tps
      obtain ⟨va, rfl, hva⟩ := id hx5
      try simp (maxSteps := 1000000) only [tSeq, tIfS, tTest, tOp, tUn, tCB, tCons, tNil, tVar, tC, rI0, rI, rU, rEq, rNe, tRet, tRetN, tAsg, gName, gSub, tBM, tBM0, tNext, tB, tNot, tAnd, tOr, tIf, tCall, tDrop, tBreak, tCont, L2.start, tDGet, sDPut, tTup, tLst, tDNewK, tRevL, rCat, rAppend, rPop, rSetL, tAndV, tOrV, tNotV, tSl, tPart, tNoPart, tM1, gTup, gCons, gNil, cxK, cxnK, List.map_cons, List.map_nil, List.length_cons, List.length_nil, List.replicate, List.cons_append, List.nil_append, List.append_nil, List.set_cons_zero, List.set_cons_succ, List.getElem?_cons_zero, List.getElem?_cons_succ, Option.some.injEq, V.ref.injEq, V.int.injEq, V.str.injEq, V.bl.injEq, V.ty.injEq, exists_eq_left', exists_eq_left, exists_and_left, List.cons.injEq, and_true, true_and, sc_ii, sc_ss, sc_bb, sc_ni, sc_in, sc_is, sc_si, sc_nn, decide_true, decide_false, reduceCtorEq, Bool.false_eq_true, if_true, if_false, ite_true, ite_false, exists_const, eq_self, false_and, and_false, or_false, false_or, exists_false, Evl.rLenS, rSum, wipe, tYes, exists_eq, exists_eq', rIxL, rIxT, rIxS, exists_and_right, gt_iff_lt, not_true_eq_false, not_false_eq_true, Bool.not_true, Bool.not_false, decide_eq_true_eq, Nat.reduceSub, Nat.reduceAdd, List.append_assoc, tChain, tDIn, tDNotIn, sDDel, tAug, ipI, rInt1_int, rInt1_bl, rGetO]
      refine ⟨⟨dx, _, k15 _ _ not0 ho⟩, o, _, zs, es, h, rfl, hR.kp k15, hx5, hm', fun l6 H6 nl6 hl6 k6 => ?_⟩
      have k16 := k15.trans k6
      obtain ⟨ue, hea, hue, hes⟩ := hE.kp k16
      refine lcG (R := fun _ v x => v = V.str (nmL zs x)) (R2 := fun _ v x => v = V.str (nmL zs x)) (fun _ _ _ _ _ h => h) (fun _ _ _ _ _ h => h) (fun r => decide ((h, r) ∈ es)) id (src_seq (fun R q' => ⟨_, rfl, q'⟩) (LkAt.kp ha k16)) lk_rw (by rw [List.length_range]; omega) (fun v r H7 N N0 hr hv k7 hN hN0 => ?_) fun D us' H7 nD hD hrw k7 => ?_
      · subst hv
        have rn := List.mem_range.mp hr
        refine ⟨by simp [wipe], ?_⟩
        try simp (maxSteps := 1000000) only [tSeq, tIfS, tTest, tOp, tUn, tCB, tCons, tNil, tVar, tC, rI0, rI, rU, rEq, rNe, tRet, tRetN, tAsg, gName, gSub, tBM, tBM0, tNext, tB, tNot, tAnd, tOr, tIf, tCall, tDrop, tBreak, tCont, L2.start, tDGet, sDPut, tTup, tLst, tDNewK, tRevL, rCat, rAppend, rPop, rSetL, tAndV, tOrV, tNotV, tSl, tPart, tNoPart, tM1, gTup, gCons, gNil, cxK, cxnK, List.map_cons, List.map_nil, List.length_cons, List.length_nil, List.replicate, List.cons_append, List.nil_append, List.append_nil, List.set_cons_zero, List.set_cons_succ, List.getElem?_cons_zero, List.getElem?_cons_succ, Option.some.injEq, V.ref.injEq, V.int.injEq, V.str.injEq, V.bl.injEq, V.ty.injEq, exists_eq_left', exists_eq_left, exists_and_left, List.cons.injEq, and_true, true_and, sc_ii, sc_ss, sc_bb, sc_ni, sc_in, sc_is, sc_si, sc_nn, decide_true, decide_false, reduceCtorEq, Bool.false_eq_true, if_true, if_false, ite_true, ite_false, exists_const, eq_self, false_and, and_false, or_false, false_or, exists_false, Evl.rLenS, rSum, wipe, tYes, exists_eq, exists_eq', rIxL, rIxT, rIxS, exists_and_right, gt_iff_lt, not_true_eq_false, not_false_eq_true, Bool.not_true, Bool.not_false, decide_eq_true_eq, Nat.reduceSub, Nat.reduceAdd, List.append_assoc, tChain, tDIn, tDNotIn, sDDel, tAug, ipI, rInt1_int, rInt1_bl]
        refine ⟨by rw [sizeLine_eq]; decide, fun t nt => ?_⟩
        have kt := (Kp.new nt : Kp [] H7 (upd H7 t (.tup [.ref va, .str (nmL zs r)])))
        have k67 := (k6.trans k7).trans kt
        have hET : ET zs (upd H7 t (.tup [.ref va, .str (nmL zs r)])) (.ref t) (h, r) := ⟨t, _, rfl, upd_same, ⟨va, rfl, k67 _ _ not0 hva⟩⟩
        have k77 := k7.trans kt
        refine in_ens L ⟨hb, rn⟩ hbe hET (sq_l (k77 _ _ not0 hea)) (hue.mono fun _ _ z => z.tp k77.tps) ⟨_, rfl, ?_⟩
        by_cases e : (h, r) ∈ es
        · rw [decide_eq_true e, if_pos rfl]
          exact hN (decide_eq_true e) _ _ rfl kt
        · rw [decide_eq_false e, if_neg (by decide)]
          exact hN0 (decide_eq_false e) _ kt
      · rw [List.map_id, ← may_range (by omega) hm' EO.nd hs] at hrw
        have e := rw_strs hrw
        subst e
        refine ne_strs (fun z hz => ?_) (k7 _ _ not0 hl6) hD ⟨false, rfl, ?_⟩
        · obtain ⟨r, hr, rfl⟩ := List.mem_map.mp hz
          exact L.nm _ (List.mem_of_getElem? (nm_at (may_lt hbe r hr)))
        · rw [if_neg (by decide)]
          exact (k5.trans k6).trans k7
    · rintro σ H5 ⟨c3, c4, rfl, k5⟩
      try simp (maxSteps := 1000000) only [tSeq, tIfS, tTest, tOp, tUn, tCB, tCons, tNil, tVar, tC, rI0, rI, rU, rEq, rNe, tRet, tRetN, tAsg, gName, gSub, tBM, tBM0, tNext, tB, tNot, tAnd, tOr, tIf, tCall, tDrop, tBreak, tCont, L2.start, tDGet, sDPut, tTup, tLst, tDNewK, tRevL, rCat, rAppend, rPop, rSetL, tAndV, tOrV, tNotV, tSl, tPart, tNoPart, tM1, gTup, gCons, gNil, cxK, cxnK, List.map_cons, List.map_nil, List.length_cons, List.length_nil, List.replicate, List.cons_append, List.nil_append, List.append_nil, List.set_cons_zero, List.set_cons_succ, List.getElem?_cons_zero, List.getElem?_cons_succ, Option.some.injEq, V.ref.injEq, V.int.injEq, V.str.injEq, V.bl.injEq, V.ty.injEq, exists_eq_left', exists_eq_left, exists_and_left, List.cons.injEq, and_true, true_and, sc_ii, sc_ss, sc_bb, sc_ni, sc_in, sc_is, sc_si, sc_nn, decide_true, decide_false, reduceCtorEq, Bool.false_eq_true, if_true, if_false, ite_true, ite_false, exists_const, eq_self, false_and, and_false, or_false, false_or, exists_false, Evl.rLenS, rSum, wipe, tYes, exists_eq, exists_eq', rIxL, rIxT, rIxS, exists_and_right, gt_iff_lt, not_true_eq_false, not_false_eq_true, Bool.not_true, Bool.not_false, decide_eq_true_eq, Nat.reduceSub, Nat.reduceAdd, List.append_assoc, tChain, tDIn, tDNotIn, sDDel, tAug, ipI, rInt1_int, rInt1_bl]
      exact q _ (k14.trans k5)
end
end My

set_option Elab.async false
set_option linter.all false
set_option maxRecDepth 100000
set_option maxHeartbeats 4000000
namespace My
open PySem L2 NdefX StX
/-- an order of the locks, by places -/
structure OkW (n : Nat) (ws : List Nat) : Prop where
  lt : ∀ r ∈ ws, r < n
  nd : ws.Nodup
  all : ∀ r, r < n → r ∈ ws
def behO (ws : List Nat) (r : Nat) (h : Hd) : Hd := h.filter fun x => decide (x ∈ ws.drop (ws.idxOf r))
def risO (n : Nat) (ws : List Nat) : List En := (ens n).filter fun e => decide (behO ws e.2 e.1 = [])
def gatO (n k : Nat) : List En := (ens n).filter fun e => decide (e.1 = []) || decide (k ∈ e.1)
theorem nm_mem {zs : List Str} (L : LkOk zs) {ws : List Nat} (hw : ∀ r ∈ ws, r < zs.length) {x : Nat} (hx : x < zs.length) : nmL zs x ∈ nmH zs ws ↔ x ∈ ws := by
  unfold nmH
  constructor
  · intro h
    obtain ⟨y, hy, e⟩ := List.mem_map.mp h
    rwa [← nm_inj L (hw y hy) hx e]
  · exact fun h => List.mem_map.mpr ⟨x, h, rfl⟩
section
variable {P : Program} {w : World} {K : PySem.W.Frag} {mg : Str → Option Value} {base : Heap} {tL t3 : Tok} {RC CC RG : Addr}
def spRisO (K : PySem.W.Frag) : Sp := fun vs H Q _ => ∃ (a b : Addr) (zs : List Str) (ws : List Nat), vs = [.ref a, .ref b] ∧ LkOk zs ∧ LkAt K H a zs ∧ OkW zs.length ws ∧ H b = some (.lst ((nmH zs ws).map V.str)) ∧ ∀ l H', H l = none → EnAt H' l zs (risO zs.length ws) → Kp [] H H' → Q (.ref l) H'
theorem ok_law_rising {f : Addr} {fd : FuncData} (D : Df K mg "_law_rising" s_law_rising ["_law_locks", "_law_order"] f fd) (T : BtY mg RC) {f1 : Addr} {fd1 : FuncData} (D_law_entries : Df K mg "_law_entries" s_law_entries ["_law_locks"] f1 fd1) (G_law_entries : FnOk P w K mg base CX0 2 f1 fd1 ["_law_locks"] (spLEnts K)) : FnOk P w K mg base CX0 3 f fd ["_law_locks", "_law_order"] (spRisO K) := by
  refine D.F.ok sc_law_rising (fun vs H Q E h => ?_) (fun cdv A outer s H vs Q E hr h => ?_)
  · obtain ⟨_, _, _, _, rfl, _⟩ := h
    rfl
  · obtain ⟨a, b, zs, ws, rfl, L, ha, W, hb, q⟩ := h
    refine ⟨_, (pss_cons (ps_set (i := 2) sc_law_rising.nd rfl (Or.inl rfl) (pe_lst pa_nil))
      (pss_cons (ps_for PassesOwn.never rfl (pi_list (pe_call G_law_entries (hr.mono (by decide)) rfl D_law_entries.g D_law_entries.F.kp D_law_entries.b .nil pass0 (pa_cons (pv 0) pa_nil))) (pg_name (i := 3) sc_law_rising.nd rfl (Or.inl rfl)) (pss_cons (ps_set (i := 4) sc_law_rising.nd rfl (Or.inr rfl) (pe_slice sl_list (pv 1) (po_some (pe_bm PySem.F.plainAttrs_list PySem.F.slot_list_index PySem.F.type_list_index mt_index (pv 1) (pa_cons (pe_ix (r := rIxT K) ix_tup (pv 3) pe_int (fun _ _ => rfl)) pa_nil))) po_none))
      (pss_one (ps_if (pt_cmpR op_eq (pe_callB (id := "len") (r := Evl.rLenS K) call_len_seq (by rfl) T.b_len PySem.boot_len (pa_cons (pe_lc (own := [("_law_lock", 5)]) (g := (gName 5)) rfl sc_law_rising.nd (pi_tup (pe_ix (r := rIxT K) ix_tup (pv 3) pe_int (fun _ _ => rfl))) (blkOk_by (N := ["_law_locks", "_law_order", "_law_due", "_law_entry", "_law_behind", "_law_lock"]) (sc := defScope s_law_rising) (by decide +kernel)) (fun _ _ _ _ _ => (pg_name (i := 5) sc_law_rising.nd rfl (Or.inl rfl))) (fun _ _ _ _ _ => (pts_one (pt_cmpR (r := rIn K false) op_in_seq (pv 5) (pv 4) (by rfl)))) (fun _ _ _ _ _ => (pv 5))) pa_nil)) pe_int (nomark _)) (pss_one (ps_expr (pe_bm PySem.F.plainAttrs_list PySem.F.slot_list_append PySem.F.type_list_append mt_append (pv 2) (pa_cons (pv 3) pa_nil)))) pss_nil))))
      (pss_one (ps_ret (pv 2))))), ?_⟩
    have n1 := L.pos
    have n3 := L.le
    have EO := factE (n := zs.length) (by omega) n1
    try simp (maxSteps := 1000000) only [tSeq, tIfS, tTest, tOp, tUn, tCB, tCons, tNil, tVar, tC, rI0, rI, rU, rEq, rNe, tRet, tRetN, tAsg, gName, gSub, tBM, tBM0, tNext, tB, tNot, tAnd, tOr, tIf, tCall, tDrop, tBreak, tCont, L2.start, tDGet, sDPut, tTup, tLst, tDNewK, tRevL, rCat, rAppend, rPop, rSetL, tAndV, tOrV, tNotV, tSl, tPart, tNoPart, tM1, gTup, gCons, gNil, cxK, cxnK, List.map_cons, List.map_nil, List.length_cons, List.length_nil, List.replicate, List.cons_append, List.nil_append, List.append_nil, List.set_cons_zero, List.set_cons_succ, List.getElem?_cons_zero, List.getElem?_cons_succ, Option.some.injEq, V.ref.injEq, V.int.injEq, V.str.injEq, V.bl.injEq, V.ty.injEq, exists_eq_left', exists_eq_left, exists_and_left, List.cons.injEq, and_true, true_and, sc_ii, sc_ss, sc_bb, sc_ni, sc_in, sc_is, sc_si, sc_nn, decide_true, decide_false, reduceCtorEq, Bool.false_eq_true, if_true, if_false, ite_true, ite_false, exists_const, eq_self, false_and, and_false, or_false, false_or, exists_false, Evl.rLenS, rSum, wipe, tYes, exists_eq, exists_eq', rIxL, rIxT, rIxS, exists_and_right, gt_iff_lt, not_true_eq_false, not_false_eq_true, Bool.not_true, Bool.not_false, decide_eq_true_eq, Nat.reduceSub, Nat.reduceAdd, List.append_assoc, tChain, tDIn, tDNotIn, sDDel, tAug, ipI, rInt1_int, rInt1_bl]
    refine ⟨Nat.zero_le _, fun p np => ?_⟩
    have hp : (upd H p (.lst [])) p = some (.lst []) := upd_same
    have k0 := (Kp.new np : Kp [] H (upd H p (.lst [])))
    generalize upd H p (.lst []) = H1 at hp k0 ⊢
    refine forL_src ?_
    try simp (maxSteps := 1000000) only [tSeq, tIfS, tTest, tOp, tUn, tCB, tCons, tNil, tVar, tC, rI0, rI, rU, rEq, rNe, tRet, tRetN, tAsg, gName, gSub, tBM, tBM0, tNext, tB, tNot, tAnd, tOr, tIf, tCall, tDrop, tBreak, tCont, L2.start, tDGet, sDPut, tTup, tLst, tDNewK, tRevL, rCat, rAppend, rPop, rSetL, tAndV, tOrV, tNotV, tSl, tPart, tNoPart, tM1, gTup, gCons, gNil, cxK, cxnK, List.map_cons, List.map_nil, List.length_cons, List.length_nil, List.replicate, List.cons_append, List.nil_append, List.append_nil, List.set_cons_zero, List.set_cons_succ, List.getElem?_cons_zero, List.getElem?_cons_succ, Option.some.injEq, V.ref.injEq, V.int.injEq, V.str.injEq, V.bl.injEq, V.ty.injEq, exists_eq_left', exists_eq_left, exists_and_left, List.cons.injEq, and_true, true_and, sc_ii, sc_ss, sc_bb, sc_ni, sc_in, sc_is, sc_si, sc_nn, decide_true, decide_false, reduceCtorEq, Bool.false_eq_true, if_true, if_false, ite_true, ite_false, exists_const, eq_self, false_and, and_false, or_false, false_or, exists_false, Evl.rLenS, rSum, wipe, tYes, exists_eq, exists_eq', rIxL, rIxT, rIxS, exists_and_right, gt_iff_lt, not_true_eq_false, not_false_eq_true, Bool.not_true, Bool.not_false, decide_eq_true_eq, Nat.reduceSub, Nat.reduceAdd, List.append_assoc, tChain, tDIn, tDNotIn, sDDel, tAug, ipI, rInt1_int, rInt1_bl]
    refine ⟨a, zs, rfl, L, LkAt.kp ha k0, fun l us H2 nl hl hus k1 => ?_⟩
    have hp2 := k1 _ _ not0 hp
    have lp : l ≠ p := fun z => by rw [z, hp] at nl; cases nl
    have l12 : (ens zs.length).length ≤ 12 := EO.len
    refine forLC (fun j σ H' => ∃ (vs : List V) (c3 c4 c5 : Option V), σ = [some (.ref a), some (.ref b), some (.ref p), c3, c4, c5] ∧ H' p = some (.lst vs) ∧ H' l = some (.lst us) ∧ Rw (ET zs H') vs (((ens zs.length).take j).filter fun e => decide (behO ws e.2 e.1 = [])) ∧ Tp H2 H' ∧ Kp [] H H') (sq_l hl) ⟨_, _, _, _, rfl, hp2, hl, .nil, Tp.refl _, k0.trans k1⟩ (fun j σ H' _ h => by obtain ⟨_, _, _, _, _, _, h, _⟩ := h; exact sq_l h) ?_ ?_
    · rintro j x σ H3 hj ⟨vs, c3, c4, c5, rfl, hp3, hl3, hr3, t3, k3⟩
      obtain ⟨e, he, hx⟩ := hus.get hj
      have hm := List.mem_of_getElem? he
      obtain ⟨⟨be1, be2⟩, hh, _⟩ := EO.ent e hm
      obtain ⟨_, h3, _⟩ := EO.hld _ hh
      have hx3 := hx.tp t3
      obtain ⟨va, u, rfl, hva, hu⟩ := id hx3
      obtain ⟨ba, rfl, hba⟩ := id hu
      try simp (maxSteps := 1000000) only [tSeq, tIfS, tTest, tOp, tUn, tCB, tCons, tNil, tVar, tC, rI0, rI, rU, rEq, rNe, tRet, tRetN, tAsg, gName, gSub, tBM, tBM0, tNext, tB, tNot, tAnd, tOr, tIf, tCall, tDrop, tBreak, tCont, L2.start, tDGet, sDPut, tTup, tLst, tDNewK, tRevL, rCat, rAppend, rPop, rSetL, tAndV, tOrV, tNotV, tSl, tPart, tNoPart, tM1, gTup, gCons, gNil, cxK, cxnK, List.map_cons, List.map_nil, List.length_cons, List.length_nil, List.replicate, List.cons_append, List.nil_append, List.append_nil, List.set_cons_zero, List.set_cons_succ, List.getElem?_cons_zero, List.getElem?_cons_succ, Option.some.injEq, V.ref.injEq, V.int.injEq, V.str.injEq, V.bl.injEq, V.ty.injEq, exists_eq_left', exists_eq_left, exists_and_left, List.cons.injEq, and_true, true_and, sc_ii, sc_ss, sc_bb, sc_ni, sc_in, sc_is, sc_si, sc_nn, decide_true, decide_false, reduceCtorEq, Bool.false_eq_true, if_true, if_false, ite_true, ite_false, exists_const, eq_self, false_and, and_false, or_false, false_or, exists_false, Evl.rLenS, rSum, wipe, tYes, exists_eq, exists_eq', rIxL, rIxT, rIxS, exists_and_right, gt_iff_lt, not_true_eq_false, not_false_eq_true, Bool.not_true, Bool.not_false, decide_eq_true_eq, Nat.reduceSub, Nat.reduceAdd, List.append_assoc, tChain, tDIn, tDNotIn, sDDel, tAug, ipI, rInt1_int, rInt1_bl]
      have hb3 := k3 _ _ not0 hb
      have mw := W.all _ be2
      have jl := List.idxOf_lt_length_iff.mpr mw
      have je : ws[ws.idxOf e.2]? = some e.2 := by rw [List.getElem?_eq_getElem jl, List.getElem_idxOf jl]
      have jn : ((nmH zs ws).map V.str)[ws.idxOf e.2]? = some (.str (nmL zs e.2)) := by
        unfold nmH
        rw [List.getElem?_map, List.getElem?_map, je]
        rfl
      refine ⟨.inl ⟨rfl, _, sq_l hb3⟩, _, sq_t hva, _, rfl, b, _, _, ws.idxOf e.2, _, rfl, rfl, sq_l hb3, rfl, flat_strs _, jn, by simp [eqV], fun m z' hm' hz => ?_, ?_⟩
      · have ml : m < ws.length := by omega
        have : z' = .str (nmL zs ws[m]) := by
          unfold nmH at hz
          rw [List.getElem?_map, List.getElem?_map, List.getElem?_eq_getElem ml] at hz
          cases hz
          rfl
        subst this
        have : ¬ nmL zs ws[m] = nmL zs e.2 := fun z => by
          have h1 := nm_inj L (W.lt _ (List.getElem_mem ml)) be2 z
          have h2 : ws[m] = ws[ws.idxOf e.2] := h1.trans (List.getElem_idxOf jl).symm
          have := (List.getElem_inj W.nd).mp h2
          omega
        exact beq_eq_false_iff_ne.mpr this
      refine ⟨_, rfl, b, _, rfl, sq_l hb3, fun pb npb => ?_⟩
      rw [cut_from, ← List.map_drop]
      have eD : (nmH zs ws).drop (ws.idxOf e.2) = nmH zs (ws.drop (ws.idxOf e.2)) := by
        unfold nmH
        rw [List.map_drop]
      rw [eD]
      have kb := (Kp.new npb : Kp [] H3 (upd H3 pb (.lst ((nmH zs (ws.drop (ws.idxOf e.2))).map V.str))))
      have hpb : (upd H3 pb (.lst ((nmH zs (ws.drop (ws.idxOf e.2))).map V.str))) pb = some (.lst ((nmH zs (ws.drop (ws.idxOf e.2))).map V.str)) := upd_same
      generalize upd H3 pb (.lst ((nmH zs (ws.drop (ws.idxOf e.2))).map V.str)) = H4 at kb hpb ⊢
      refine lcG (R := fun _ v x => v = V.str (nmL zs x)) (R2 := fun _ v x => v = V.str (nmL zs x)) (fun _ _ _ _ _ h => h) (fun _ _ _ _ _ h => h) (fun x => decide (x ∈ ws.drop (ws.idxOf e.2))) id (src_tup (fun R q' => ⟨_, rfl, ?_⟩) (sq_t (kb _ _ not0 hba))) ht_rw (by omega) (fun v x H5 N N0 hx hv k5 hN hN0 => ?_) fun D us' H5 nD hD hrw k5 => ?_
      · exact ⟨_, _, _, _, rfl, rfl, sq_t (kb _ _ not0 hva), rfl, q'⟩
      · subst hv
        refine ⟨by simp [wipe], ?_⟩
        try simp (maxSteps := 1000000) only [tSeq, tIfS, tTest, tOp, tUn, tCB, tCons, tNil, tVar, tC, rI0, rI, rU, rEq, rNe, tRet, tRetN, tAsg, gName, gSub, tBM, tBM0, tNext, tB, tNot, tAnd, tOr, tIf, tCall, tDrop, tBreak, tCont, L2.start, tDGet, sDPut, tTup, tLst, tDNewK, tRevL, rCat, rAppend, rPop, rSetL, tAndV, tOrV, tNotV, tSl, tPart, tNoPart, tM1, gTup, gCons, gNil, cxK, cxnK, List.map_cons, List.map_nil, List.length_cons, List.length_nil, List.replicate, List.cons_append, List.nil_append, List.append_nil, List.set_cons_zero, List.set_cons_succ, List.getElem?_cons_zero, List.getElem?_cons_succ, Option.some.injEq, V.ref.injEq, V.int.injEq, V.str.injEq, V.bl.injEq, V.ty.injEq, exists_eq_left', exists_eq_left, exists_and_left, List.cons.injEq, and_true, true_and, sc_ii, sc_ss, sc_bb, sc_ni, sc_in, sc_is, sc_si, sc_nn, decide_true, decide_false, reduceCtorEq, Bool.false_eq_true, if_true, if_false, ite_true, ite_false, exists_const, eq_self, false_and, and_false, or_false, false_or, exists_false, Evl.rLenS, rSum, wipe, tYes, exists_eq, exists_eq', rIxL, rIxT, rIxS, exists_and_right, gt_iff_lt, not_true_eq_false, not_false_eq_true, Bool.not_true, Bool.not_false, decide_eq_true_eq, Nat.reduceSub, Nat.reduceAdd, List.append_assoc, tChain, tDIn, tDNotIn, sDDel, tAug, ipI, rInt1_int, rInt1_bl]
        refine ⟨pb, _, rfl, .inl (sq_l (k5 _ _ not0 hpb)), rfl, flat_strs _, _, rfl, ?_⟩
        simp only [Bool.false_eq_true, if_false, inV_str]
        have hm2 := nm_mem L (ws := ws.drop (ws.idxOf e.2)) (fun r hr => W.lt r (List.mem_of_mem_drop hr)) (be1 x hx)
        by_cases h : x ∈ ws.drop (ws.idxOf e.2)
        · rw [decide_eq_true (hm2.mpr h), if_pos rfl]
          exact hN (decide_eq_true h) _ _ rfl (Kp.refl _ _)
        · rw [decide_eq_false (fun e => h (hm2.mp e)), if_neg (by decide)]
          exact hN0 (decide_eq_false h) _ (Kp.refl _ _)
      · rw [List.map_id] at hrw
        have k35 := kb.trans k5
        have hp5 := k35 _ _ not0 hp3
        have hl5 := k35 _ _ not0 hl3
        refine ⟨D, rfl, us', .inl (sq_l hD), ?_⟩
        rw [hrw.len]
        have ej := he
        by_cases e0 : behO ws e.2 e.1 = []
        · have e0' : (e.1.filter fun x => decide (x ∈ ws.drop (ws.idxOf e.2))) = [] := e0
          rw [if_pos (by rw [e0']; rfl)]
          have tp : Tp H5 (upd H5 p (.lst (vs ++ [.ref va]))) := (Tp.refl _).putL hp5
          have lv : vs.length ≤ 12 := by
            rw [hr3.len]
            exact Nat.le_trans (List.length_filter_le _ _) (Nat.le_trans (List.take_sublist _ _).length_le l12)
          refine ⟨.inl ⟨rfl, _, sq_l hp5⟩, vs, hp5, smallL (by omega), vs ++ [.ref va], upd_same, by rw [upd_ne lp]; exact hl5, ?_, (t3.trans k35.tps).trans tp, (k3.trans k35).wr np⟩
          rw [take_one he, List.filter_append]
          simp only [List.filter_cons, e0, decide_true, if_true, List.filter_nil]
          exact ((hr3.mono fun _ _ z => z.tp k35.tps).snoc (hx3.tp k35.tps)).mono fun _ _ z => z.tp tp
        · have e0' : ¬ (e.1.filter fun x => decide (x ∈ ws.drop (ws.idxOf e.2))) = [] := e0
          rw [if_neg (by intro z; exact e0' (List.length_eq_zero_iff.mp (by exact_mod_cast z)))]
          refine ⟨vs, hp5, hl5, ?_, t3.trans k35.tps, k3.trans k35⟩
          rw [take_one he, List.filter_append]
          simp only [List.filter_cons, e0, decide_false, Bool.false_eq_true, if_false, List.filter_nil, List.append_nil]
          exact hr3.mono fun _ _ z => z.tp k35.tps
    · rintro σ H3 ⟨vs, c3, c4, c5, rfl, hp3, hl3, hr3, t3, k3⟩
      try simp (maxSteps := 1000000) only [tSeq, tIfS, tTest, tOp, tUn, tCB, tCons, tNil, tVar, tC, rI0, rI, rU, rEq, rNe, tRet, tRetN, tAsg, gName, gSub, tBM, tBM0, tNext, tB, tNot, tAnd, tOr, tIf, tCall, tDrop, tBreak, tCont, L2.start, tDGet, sDPut, tTup, tLst, tDNewK, tRevL, rCat, rAppend, rPop, rSetL, tAndV, tOrV, tNotV, tSl, tPart, tNoPart, tM1, gTup, gCons, gNil, cxK, cxnK, List.map_cons, List.map_nil, List.length_cons, List.length_nil, List.replicate, List.cons_append, List.nil_append, List.append_nil, List.set_cons_zero, List.set_cons_succ, List.getElem?_cons_zero, List.getElem?_cons_succ, Option.some.injEq, V.ref.injEq, V.int.injEq, V.str.injEq, V.bl.injEq, V.ty.injEq, exists_eq_left', exists_eq_left, exists_and_left, List.cons.injEq, and_true, true_and, sc_ii, sc_ss, sc_bb, sc_ni, sc_in, sc_is, sc_si, sc_nn, decide_true, decide_false, reduceCtorEq, Bool.false_eq_true, if_true, if_false, ite_true, ite_false, exists_const, eq_self, false_and, and_false, or_false, false_or, exists_false, Evl.rLenS, rSum, wipe, tYes, exists_eq, exists_eq', rIxL, rIxT, rIxS, exists_and_right, gt_iff_lt, not_true_eq_false, not_false_eq_true, Bool.not_true, Bool.not_false, decide_eq_true_eq, Nat.reduceSub, Nat.reduceAdd, List.append_assoc, tChain, tDIn, tDNotIn, sDDel, tAug, ipI, rInt1_int, rInt1_bl]
      rw [hus.len, List.take_length] at hr3
      exact q p H3 np ⟨vs, hp3, hr3, List.filter_sublist⟩ k3
def spGatO (K : PySem.W.Frag) : Sp := fun vs H Q _ => ∃ (a : Addr) (zs : List Str) (k : Nat), vs = [.ref a, .str (nmL zs k)] ∧ LkOk zs ∧ LkAt K H a zs ∧ k < zs.length ∧ ∀ l H', H l = none → EnAt H' l zs (gatO zs.length k) → Kp [] H H' → Q (.ref l) H'
theorem ok_law_gate {f : Addr} {fd : FuncData} (D : Df K mg "_law_gate" s_law_gate ["_law_locks", "_law_first"] f fd) (T : BtY mg RC) {f1 : Addr} {fd1 : FuncData} (D_law_entries : Df K mg "_law_entries" s_law_entries ["_law_locks"] f1 fd1) (G_law_entries : FnOk P w K mg base CX0 2 f1 fd1 ["_law_locks"] (spLEnts K)) : FnOk P w K mg base CX0 3 f fd ["_law_locks", "_law_first"] (spGatO K) := by
  refine D.F.ok sc_law_gate (fun vs H Q E h => ?_) (fun cdv A outer s H vs Q E hr h => ?_)
  · obtain ⟨_, _, _, rfl, _⟩ := h
    rfl
  · obtain ⟨a, zs, k, rfl, L, ha, hk, q⟩ := h
    refine ⟨_, (pss_one (ps_ret (pe_lc (own := [("_law_entry", 2)]) (g := (gName 2)) rfl sc_law_gate.nd (pi_list (pe_call G_law_entries (hr.mono (by decide)) rfl D_law_entries.g D_law_entries.F.kp D_law_entries.b .nil pass0 (pa_cons (pv 0) pa_nil))) (blkOk_by (N := ["_law_locks", "_law_first", "_law_entry"]) (sc := defScope s_law_gate) (by decide +kernel)) (fun _ _ _ _ _ => (pg_name (i := 2) sc_law_gate.nd rfl (Or.inl rfl))) (fun _ _ _ _ _ => (pts_one (PW.pt (pw_or (pt_cmpR op_eq (pe_callB (id := "len") (r := Evl.rLenS K) call_len_seq (by rfl) T.b_len PySem.boot_len (pa_cons (pe_ix (r := rIxT K) ix_tup (pv 2) pe_int (fun _ _ => rfl)) pa_nil)) pe_int (nomark _)) (pw_or1 (pt_cmpR (r := rIn K false) op_in_seq (pv 1) (pe_ix (r := rIxT K) ix_tup (pv 2) pe_int (fun _ _ => rfl)) (by rfl))))))) (fun _ _ _ _ _ => (pv 2))))), ?_⟩
    have n1 := L.pos
    have n3 := L.le
    have EO := factE (n := zs.length) (by omega) n1
    have l12 : (ens zs.length).length ≤ 12 := EO.len
    refine lc_src ?_
    try simp (maxSteps := 1000000) only [tSeq, tIfS, tTest, tOp, tUn, tCB, tCons, tNil, tVar, tC, rI0, rI, rU, rEq, rNe, tRet, tRetN, tAsg, gName, gSub, tBM, tBM0, tNext, tB, tNot, tAnd, tOr, tIf, tCall, tDrop, tBreak, tCont, L2.start, tDGet, sDPut, tTup, tLst, tDNewK, tRevL, rCat, rAppend, rPop, rSetL, tAndV, tOrV, tNotV, tSl, tPart, tNoPart, tM1, gTup, gCons, gNil, cxK, cxnK, List.map_cons, List.map_nil, List.length_cons, List.length_nil, List.replicate, List.cons_append, List.nil_append, List.append_nil, List.set_cons_zero, List.set_cons_succ, List.getElem?_cons_zero, List.getElem?_cons_succ, Option.some.injEq, V.ref.injEq, V.int.injEq, V.str.injEq, V.bl.injEq, V.ty.injEq, exists_eq_left', exists_eq_left, exists_and_left, List.cons.injEq, and_true, true_and, sc_ii, sc_ss, sc_bb, sc_ni, sc_in, sc_is, sc_si, sc_nn, decide_true, decide_false, reduceCtorEq, Bool.false_eq_true, if_true, if_false, ite_true, ite_false, exists_const, eq_self, false_and, and_false, or_false, false_or, exists_false, Evl.rLenS, rSum, wipe, tYes, exists_eq, exists_eq', rIxL, rIxT, rIxS, exists_and_right, gt_iff_lt, not_true_eq_false, not_false_eq_true, Bool.not_true, Bool.not_false, decide_eq_true_eq, Nat.reduceSub, Nat.reduceAdd, List.append_assoc, tChain, tDIn, tDNotIn, sDDel, tAug, ipI, rInt1_int, rInt1_bl]
    refine ⟨a, zs, rfl, L, ha, fun l us H2 nl hl hus k1 => ?_⟩
    refine lcG (R := ET zs) (R2 := ET zs) (fun _ _ _ _ t h => h.tp t) (fun _ _ _ _ t h => h.tp t) (fun e => decide (e.1 = []) || decide (k ∈ e.1)) id (src_list (fun R q' => q') (sq_l hl)) hus (by omega) (fun v e H3 N N0 he hv k3 hN hN0 => ?_) fun D us' H3 nD hD hrw k3 => ?_
    · obtain ⟨⟨be1, be2⟩, hh, _⟩ := EO.ent e he
      obtain ⟨_, h3, _⟩ := EO.hld _ hh
      obtain ⟨va, u, rfl, hva, hu⟩ := id hv
      obtain ⟨ba, rfl, hba⟩ := id hu
      refine ⟨by simp [wipe], ?_⟩
      try simp (maxSteps := 1000000) only [tSeq, tIfS, tTest, tOp, tUn, tCB, tCons, tNil, tVar, tC, rI0, rI, rU, rEq, rNe, tRet, tRetN, tAsg, gName, gSub, tBM, tBM0, tNext, tB, tNot, tAnd, tOr, tIf, tCall, tDrop, tBreak, tCont, L2.start, tDGet, sDPut, tTup, tLst, tDNewK, tRevL, rCat, rAppend, rPop, rSetL, tAndV, tOrV, tNotV, tSl, tPart, tNoPart, tM1, gTup, gCons, gNil, cxK, cxnK, List.map_cons, List.map_nil, List.length_cons, List.length_nil, List.replicate, List.cons_append, List.nil_append, List.append_nil, List.set_cons_zero, List.set_cons_succ, List.getElem?_cons_zero, List.getElem?_cons_succ, Option.some.injEq, V.ref.injEq, V.int.injEq, V.str.injEq, V.bl.injEq, V.ty.injEq, exists_eq_left', exists_eq_left, exists_and_left, List.cons.injEq, and_true, true_and, sc_ii, sc_ss, sc_bb, sc_ni, sc_in, sc_is, sc_si, sc_nn, decide_true, decide_false, reduceCtorEq, Bool.false_eq_true, if_true, if_false, ite_true, ite_false, exists_const, eq_self, false_and, and_false, or_false, false_or, exists_false, Evl.rLenS, rSum, wipe, tYes, exists_eq, exists_eq', rIxL, rIxT, rIxS, exists_and_right, gt_iff_lt, not_true_eq_false, not_false_eq_true, Bool.not_true, Bool.not_false, decide_eq_true_eq, Nat.reduceSub, Nat.reduceAdd, List.append_assoc, tChain, tDIn, tDNotIn, sDDel, tAug, ipI, rInt1_int, rInt1_bl]
      refine ⟨_, sq_t hva, _, rfl, ba, rfl, _, .inr (sq_t hba), ?_⟩
      cases hB : e.1 with
      | nil =>
        rw [if_pos (by rfl)]
        exact hN (by rw [hB]; rfl) _ _ hv (Kp.refl _ _)
      | cons x r =>
        rw [if_neg (by simp [nmH]; omega)]
        refine ⟨_, sq_t hva, _, rfl, ?_⟩
        refine in_nm L hk be1 (sq_t hba) ⟨_, rfl, ?_⟩
        by_cases h0 : k ∈ e.1
        · rw [decide_eq_true h0, if_pos rfl]
          exact hN (by rw [decide_eq_true h0, Bool.or_true]) _ _ hv (Kp.refl _ _)
        · rw [decide_eq_false h0, if_neg (by decide)]
          exact hN0 (by rw [decide_eq_false h0, Bool.or_false]; exact decide_eq_false (by rw [hB]; simp)) _ (Kp.refl _ _)
    · rw [List.map_id] at hrw
      exact q _ _ (k1.free0 nD) ⟨_, hD, hrw, List.filter_sublist⟩ (k1.trans k3)
end
end My

set_option Elab.async false
set_option linter.all false
set_option maxRecDepth 100000
set_option maxHeartbeats 4000000
namespace My
open PySem L2 NdefX StX
abbrev s_law_free_of_rings : Stmt := top 36
theorem sc_law_free_of_rings : FnScope ["_law_rule", "_law_some"] ["_law_rule", "_law_some"] (defScope s_law_free_of_rings) := ⟨rfl, rfl, rfl, by decide +kernel, rfl, by decide +kernel, by decide +kernel⟩
/-! ### that no ring comes about by the usual rules -/
def NoRing (n : Nat) (es : List En) : Prop := ∀ m, 2 ≤ m → m ≤ n → FreeJ n m es
theorem free_mono {n m : Nat} {es fs : List En} (s : ∀ e ∈ es, e ∈ fs) (h : FreeJ n m fs) : FreeJ n m es := fun hs hr => by
  cases e : stuckJ es hs with
  | false => rfl
  | true => exact (stuck_mono s e).symm.trans (h hs (rch_mono s hr))
theorem no_mono {n : Nat} {es fs : List En} (s : ∀ e ∈ es, e ∈ fs) (h : NoRing n fs) : NoRing n es := fun m h1 h2 => free_mono s (h m h1 h2)
def freeT (n : Nat) (es : List En) : Bool := (List.range (n + 1)).all fun m => decide (m < 2) || (allJ n m).all fun hs => !stuckJ es hs
theorem free_of {n : Nat} {es : List En} (n1 : 1 ≤ n) (n3 : n < 4) (hes : es.Sublist (ens n)) (h : freeT n es = true) : NoRing n es := fun m m2 mn hs hr => by
  unfold freeT at h
  rw [List.all_eq_true] at h
  have := h m (List.mem_range.mpr (by omega))
  rw [decide_eq_false (by omega), Bool.false_or, List.all_eq_true] at this
  have := this hs (rch_all n3 n1 (by omega) hes hr)
  simpa using this
def ordW (n t : Nat) (b : Bool) : List Nat := if b then ((List.range n).drop t ++ (List.range n).take t).reverse else (List.range n).drop t ++ (List.range n).take t
def okWB (n : Nat) (ws : List Nat) : Bool := (ws.all fun r => decide (r < n)) && decide ws.Nodup && (List.range n).all fun r => decide (r ∈ ws)
theorem okW_of {n : Nat} {ws : List Nat} (h : okWB n ws = true) : OkW n ws := by
  unfold okWB at h
  rw [Bool.and_eq_true, Bool.and_eq_true, List.all_eq_true, List.all_eq_true] at h
  exact ⟨fun r hr => of_decide_eq_true (h.1.1 r hr), of_decide_eq_true h.1.2, fun r hr => of_decide_eq_true (h.2 r (List.mem_range.mpr hr))⟩
theorem ord_ok0 : ∀ n, n < 4 → 1 ≤ n → ∀ t, t < n → ∀ b : Bool, okWB n (ordW n t b) = true ∧ freeT n (risO n (ordW n t b)) = true ∧ (ordW n t b).length = n := by decide +kernel
theorem rng_ok0 : ∀ n, n < 4 → 1 ≤ n → okWB n (List.range n) = true ∧ freeT n (risR n) = true ∧ risO n (List.range n) = risR n := by decide +kernel
theorem gat_ok0 : ∀ n, n < 4 → 1 ≤ n → ∀ k, k < n → freeT n (gatO n k) = true := by decide +kernel
theorem every2 {n : Nat} (h : n = 2 ∨ n = 3) : ¬ FreeJ n 2 (ens n) := fun F => by
  have r0 : RchJ n 2 (ens n) [[], []] := .zero
  have r1 : RchJ n 2 (ens n) [[0], []] := by
    rcases h with rfl | rfl
    · exact .step (s := (0, true, 0)) r0 (by unfold OkJ; decide +kernel)
    · exact .step (s := (0, true, 0)) r0 (by unfold OkJ; decide +kernel)
  have r2 : RchJ n 2 (ens n) [[0], [1]] := by
    rcases h with rfl | rfl
    · exact .step (s := (1, true, 1)) r1 (by unfold OkJ; decide +kernel)
    · exact .step (s := (1, true, 1)) r1 (by unfold OkJ; decide +kernel)
  have := F _ r2
  rcases h with rfl | rfl <;> exact absurd this (by decide +kernel)
theorem wi_false {n : Nat} {fs : List En} (h : n = 2 ∨ n = 3) (hf : (([1] : Hd), 0) ∉ fs) : wiR n (ens n) fs = false := by
  refine Bool.eq_false_iff.mpr fun w => hf (wi_iff.mp w [1] ?_ ?_ 0 ?_)
  · rcases h with rfl | rfl <;> decide +kernel
  · refine .step .zero ?_
    rcases h with rfl | rfl <;> decide +kernel
  · rcases h with rfl | rfl <;> decide +kernel
theorem nin_ris {n : Nat} : (([1] : Hd), 0) ∉ risR n := fun h => absurd (List.mem_filter.mp h).2 (by decide)
theorem nin_gat {n : Nat} : (([1] : Hd), 0) ∉ gatR n := fun h => absurd (List.mem_filter.mp h).2 (by decide)
theorem zs_rng (zs : List Str) : nmH zs (List.range zs.length) = zs := by
  refine List.ext_getElem (by simp [nmH]) fun i h1 h2 => ?_
  simp only [nmH, List.getElem_map, List.getElem_range]
  have := nm_at h2
  rw [List.getElem?_eq_getElem h2] at this
  exact (Option.some.inj this).symm
theorem ord_zs {zs : List Str} {t : Nat} : (zs.drop t ++ zs.take t) = nmH zs (ordW zs.length t false) := by
  conv => lhs; rw [← zs_rng zs]
  unfold nmH ordW
  rw [if_neg (by decide), List.map_append, List.map_drop, List.map_take]
theorem ord_zr {zs : List Str} {t : Nat} : (zs.drop t ++ zs.take t).reverse = nmH zs (ordW zs.length t true) := by
  rw [ord_zs]
  simp [ordW, nmH]
theorem ord_lk {zs : List Str} (L : LkOk zs) {ws : List Nat} (W : OkW zs.length ws) (hl : ws.length = zs.length) : LkOk (nmH zs ws) := by
  refine ⟨by rw [nmH_len, hl]; exact L.pos, by rw [nmH_len, hl]; exact L.le, ?_, fun z hz => ?_⟩
  · unfold nmH
    exact List.pairwise_map.mpr (W.nd.imp_of_mem fun {x y} hx hy ne e => ne (nm_inj L (W.lt x hx) (W.lt y hy) e))
  · obtain ⟨r, hr, rfl⟩ := List.mem_map.mp hz
    exact L.nm _ (List.mem_of_getElem? (nm_at (W.lt r hr)))
section
variable {P : Program} {w : World} {K : PySem.W.Frag} {mg : Str → Option Value} {base : Heap} {tL t3 : Tok} {RC CC RG : Addr}
def spFree (RC : Addr) : Sp := fun vs H Q _ => ∃ (o1 o2 : Addr) (zs : List Str) (e1 e2 : List En), vs = [.ref o1, .ref o2] ∧ RuAt RC H o1 zs e1 ∧ RuAt RC H o2 zs e2 ∧ NoRing zs.length e1 ∧ ∀ H', Kp [] H H' → Q (.bl true) H'
theorem ok_law_free_of_rings {f : Addr} {fd : FuncData} (D : Df K mg "_law_free_of_rings" s_law_free_of_rings ["_law_rule", "_law_some"] f fd) {f6 : Addr} {fd6 : FuncData} (D_ring_of : Df K mg "ring_of" s_ring_of ["rule"] f6 fd6) (G_ring_of : FnOk P w K mg base CX0 10 f6 fd6 ["rule"] (spRof P w RC RG))
    {fS : Addr} {fdS : FuncData} (BC_Rule_and : BinC K RC fS .BitAnd) (b_Rule_and : Binds K fdS ["self", "other"] []) (G_Rule_and : FnOk P w K mg base (L2.CX P w) 6 fS fdS ["self", "other"] (spAnd RC)) : FnOk P w K mg base CX0 11 f fd ["_law_rule", "_law_some"] (spFree RC) := by
  refine D.F.ok sc_law_free_of_rings (fun vs H Q E h => ?_) (fun cdv A outer s H vs Q E hr h => ?_)
  · obtain ⟨_, _, _, _, _, rfl, _⟩ := h
    rfl
  · obtain ⟨o1, o2, zs, e1, e2, rfl, h1, h2, N, q⟩ := h
    refine ⟨_, (pss_one (ps_ret (pe_and (pe_cmpR op_isN (pe_call G_ring_of (hr.mono (by decide)) rfl D_ring_of.g D_ring_of.F.kp D_ring_of.b .nil pass0 (pa_cons (pv 0) pa_nil)) pe_non (nomark _)) (pe_one (pe_cmpR op_isN (pe_call G_ring_of (hr.mono (by decide)) rfl D_ring_of.g D_ring_of.F.kp D_ring_of.b .nil pass0 (pa_cons (pe_op (op_binO BC_Rule_and G_Rule_and b_Rule_and (hr.mono (by decide)) passL) (pv 0) (pv 1)) pa_nil)) pe_non (nomark _)))))), ?_⟩
    try simp (maxSteps := 1000000) only [tSeq, tIfS, tTest, tOp, tUn, tCB, tCons, tNil, tVar, tC, rI0, rI, rU, rEq, rNe, tRet, tRetN, tAsg, gName, gSub, tBM, tBM0, tNext, tB, tNot, tAnd, tOr, tIf, tCall, tDrop, tBreak, tCont, L2.start, tDGet, sDPut, tTup, tLst, tDNewK, tRevL, rCat, rAppend, rPop, rSetL, tAndV, tOrV, tNotV, tSl, tPart, tNoPart, tM1, gTup, gCons, gNil, cxK, cxnK, List.map_cons, List.map_nil, List.length_cons, List.length_nil, List.replicate, List.cons_append, List.nil_append, List.append_nil, List.set_cons_zero, List.set_cons_succ, List.getElem?_cons_zero, List.getElem?_cons_succ, Option.some.injEq, V.ref.injEq, V.int.injEq, V.str.injEq, V.bl.injEq, V.ty.injEq, exists_eq_left', exists_eq_left, exists_and_left, List.cons.injEq, and_true, true_and, sc_ii, sc_ss, sc_bb, sc_ni, sc_in, sc_is, sc_si, sc_nn, decide_true, decide_false, reduceCtorEq, Bool.false_eq_true, if_true, if_false, ite_true, ite_false, exists_const, eq_self, false_and, and_false, or_false, false_or, exists_false, Evl.rLenS, rSum, wipe, tYes, exists_eq, exists_eq', rIxL, rIxT, rIxS, exists_and_right, gt_iff_lt, not_true_eq_false, not_false_eq_true, Bool.not_true, Bool.not_false, decide_eq_true_eq, Nat.reduceSub, Nat.reduceAdd, List.append_assoc, tChain, tDIn, tDNotIn, sDDel, tAug, ipI, rInt1_int, rInt1_bl, rBinO]
    refine ⟨o1, zs, e1, rfl, h1, fun m hs r H' p m2 mn sk _ _ hp _ _ _ => ?_, fun _ H1 k1 => ?_⟩
    · have := N m m2 mn hs (pth_rch hp .zero)
      rw [sk] at this
      cases this
    · have h11 := h1.kp k1
      have h21 := h2.kp k1
      obtain ⟨dx1, _, _, _, ho1, _⟩ := id h11
      obtain ⟨dx2, _, _, _, ho2, _⟩ := id h21
      try simp (maxSteps := 1000000) only [tSeq, tIfS, tTest, tOp, tUn, tCB, tCons, tNil, tVar, tC, rI0, rI, rU, rEq, rNe, tRet, tRetN, tAsg, gName, gSub, tBM, tBM0, tNext, tB, tNot, tAnd, tOr, tIf, tCall, tDrop, tBreak, tCont, L2.start, tDGet, sDPut, tTup, tLst, tDNewK, tRevL, rCat, rAppend, rPop, rSetL, tAndV, tOrV, tNotV, tSl, tPart, tNoPart, tM1, gTup, gCons, gNil, cxK, cxnK, List.map_cons, List.map_nil, List.length_cons, List.length_nil, List.replicate, List.cons_append, List.nil_append, List.append_nil, List.set_cons_zero, List.set_cons_succ, List.getElem?_cons_zero, List.getElem?_cons_succ, Option.some.injEq, V.ref.injEq, V.int.injEq, V.str.injEq, V.bl.injEq, V.ty.injEq, exists_eq_left', exists_eq_left, exists_and_left, List.cons.injEq, and_true, true_and, sc_ii, sc_ss, sc_bb, sc_ni, sc_in, sc_is, sc_si, sc_nn, decide_true, decide_false, reduceCtorEq, Bool.false_eq_true, if_true, if_false, ite_true, ite_false, exists_const, eq_self, false_and, and_false, or_false, false_or, exists_false, Evl.rLenS, rSum, wipe, tYes, exists_eq, exists_eq', rIxL, rIxT, rIxS, exists_and_right, gt_iff_lt, not_true_eq_false, not_false_eq_true, Bool.not_true, Bool.not_false, decide_eq_true_eq, Nat.reduceSub, Nat.reduceAdd, List.append_assoc, tChain, tDIn, tDNotIn, sDDel, tAug, ipI, rInt1_int, rInt1_bl, rBinO]
      refine ⟨⟨dx1, _, ho1⟩, ⟨dx2, _, ho2⟩, o1, o2, zs, e1, e2, rfl, h11, h21, fun o3 H3 no3 hR3 k3 => ?_⟩
      have N2 : NoRing zs.length (e1.filter fun e => decide (e ∈ e2)) := no_mono (fun e he => (List.mem_filter.mp he).1) N
      refine ⟨o3, zs, _, rfl, hR3, fun m hs r H' p m2 mn sk _ _ hp _ _ _ => ?_, fun _ H4 k4 => ?_⟩
      · have := N2 m m2 mn hs (pth_rch hp .zero)
        rw [sk] at this
        cases this
      · exact q _ ((k1.trans k3).trans k4)
end
end My

set_option Elab.async false
set_option linter.all false
set_option maxRecDepth 100000
set_option maxHeartbeats 4000000
namespace My
open PySem L2 NdefX StX
abbrev s_law : Stmt := top 37
theorem sc_law : FnScope ["_law_script", "_law_names_here", "_law_shape", "_law_locks", "_law_turn", "_law_order", "_law_bits", "_law_known", "_law_some", "_law_k", "_law_every", "_law_rising_here", "_law_gate_here", "_law_other", "_law_ring"] ["_law_script"] (defScope s_law) := ⟨rfl, rfl, rfl, by decide +kernel, rfl, by decide +kernel, by decide +kernel⟩
theorem seq_cut {s1 s2 : L2.TS} {D : Ends} {σ : L2.St} {H : Hp} (M : L2.St → Hp → Prop) (h1 : ∀ T : L2.St → Hp → Prop, (∀ σ H, M σ H → T σ H) → s1 { D with nx := T } σ H) (h2 : ∀ σ H, M σ H → s2 D σ H) : tSeq s1 s2 D σ H := h1 _ h2
theorem seq_step {s1 s2 : L2.TS} {D : Ends} {σ : L2.St} {H : Hp} (h : s1 { D with nx := s2 D } σ H) : tSeq s1 s2 D σ H := h
theorem lcRg {ta : TA} {g : TG} {tt : TT} {te : TE} {vs : List Nat} {σ : L2.St} {H : Hp} {Q : VK} (m : Nat) (hm : m ≤ 100000) (Pv : Addr → Nat → Hp → Prop) (ht : ∀ R : List V → Hp → Prop, R [.int (m : Nat)] H → ta σ H R) (h0 : ∀ o, H o = none → Pv o 0 (upd H o (.lst [])))
    (step : ∀ o i H', H o = none → i < m → Pv o i H' → g (.int (i : Nat)) (wipe σ vs) H' fun σ2 H2 => wipe σ2 vs = wipe σ vs ∧ tt σ2 H2 fun b H3 => if b = true then te σ2 H3 fun y H4 => ∃ acc, H4 o = some (.lst acc) ∧ acc.length < sizeLine ∧ Pv o (i + 1) (upd H4 o (.lst (acc ++ [y]))) else Pv o (i + 1) H3)
    (fin : ∀ o H', H o = none → Pv o m H' → Q (.ref o) H') : tLc (iRng1 ta) g tt te vs σ H Q :=
  ht _ ⟨(m : Nat), rfl, by omega, by omega, fun o no => lc_range (Pv o) (h0 o no) (fun i H' hi p => by
    rw [Int.toNat_natCast] at hi
    have := step o i H' no hi p
    rwa [show ((0 : Int) + (i : Nat)) = ((i : Nat) : Int) by omega]) fun H' p => by
    rw [Int.toNat_natCast] at p
    exact fin o H' no p⟩
theorem cmul2 {i : Int} : CMul 2 i := .inl ⟨by decide, by decide⟩
theorem slA {K : PySem.W.Frag} {H : Hp} {a : Addr} {xs : List V} {lo hi : Option Int} {Q : VK} (hx : SqT K H a xs) (q : ∀ b H', SqT K H' b (cutV xs lo hi) → Kp [] H H' → Q (.ref b) H') : rSlA K (.ref a) lo hi H Q := by
  refine ⟨a, xs, rfl, hx, fun h => q _ _ ?_ (Kp.refl _ _), fun _ p np => q _ _ (sq_t upd_same) (Kp.new np)⟩
  unfold cutV
  rw [h.1, h.2]
  simpa using hx
theorem catA {K : PySem.W.Frag} {H : Hp} {a b : Addr} {xs ys : List V} {Q : VK} (hx : SqT K H a xs) (hy : SqT K H b ys) (hl : xs.length + ys.length ≤ sizeLine) (q : ∀ c H', SqT K H' c (xs ++ ys) → Kp [] H H' → Q (.ref c) H') : rCatA K (.ref a) (.ref b) H Q := by
  refine ⟨a, b, xs, ys, rfl, rfl, hx, hy, hl, fun e => q _ _ (by rw [e]; exact hy) (Kp.refl _ _), fun _ e => q _ _ (by rw [e, List.append_nil]; exact hx) (Kp.refl _ _), fun _ _ p np => q _ _ (sq_t upd_same) (Kp.new np)⟩
theorem cnt_tab : ∀ n, n < 9 → ∃ y : Nat, ([3, 1, 2, 2, 3, 3, 3, 3, 3] : List Nat)[n]? = some y ∧ 1 ≤ y ∧ y ≤ 3 := by
  intro n h
  match n, h with
  | 0, _ => exact ⟨_, rfl, by decide, by decide⟩
  | 1, _ => exact ⟨_, rfl, by decide, by decide⟩
  | 2, _ => exact ⟨_, rfl, by decide, by decide⟩
  | 3, _ => exact ⟨_, rfl, by decide, by decide⟩
  | 4, _ => exact ⟨_, rfl, by decide, by decide⟩
  | 5, _ => exact ⟨_, rfl, by decide, by decide⟩
  | 6, _ => exact ⟨_, rfl, by decide, by decide⟩
  | 7, _ => exact ⟨_, rfl, by decide, by decide⟩
  | 8, _ => exact ⟨_, rfl, by decide, by decide⟩
  | n + 9, h => omega
theorem LkOk.rev {zs : List Str} (L : LkOk zs) : LkOk zs.reverse := ⟨by rw [List.length_reverse]; exact L.pos, by rw [List.length_reverse]; exact L.le, (List.reverse_perm _).nodup_iff.mpr L.nd, fun z hz => L.nm z (List.mem_reverse.mp hz)⟩
theorem LkOk.tk {zs : List Str} (L : LkOk zs) {m : Nat} (h : 1 ≤ m) : LkOk (zs.take m) := ⟨by rw [List.length_take]; have := L.pos; omega, by rw [List.length_take]; have := L.le; omega, L.nd.sublist (List.take_sublist _ _), fun z hz => L.nm z (List.mem_of_mem_take hz)⟩
structure BtL (mg : Str → Option Value) (RC RG : Addr) : Prop where
  b_len : mg "len" = none
  b_int : mg "int" = none
  b_range : mg "range" = none
  b_list : mg "list" = none
  b_tuple : mg "tuple" = none
  b_isinstance : mg "isinstance" = none
  k_Rule : mg "Rule" = some (.ref RC)
  k_Ring : mg "Ring" = some (.ref RG)
section
variable {P : Program} {w : World} {K : PySem.W.Frag} {mg : Str → Option Value} {base : Heap} {tL t3 : Tok} {RC OL : Addr}
def spLaw (K : PySem.W.Frag) : Sp := fun vs H Q _ => ∃ (a : Addr) (ns : List Int), vs = [.ref a] ∧ Scr K H a ns ∧ ∀ H', Q (.bl true) H'
theorem ok_law {RG : Addr} {f : Addr} {fd : FuncData} (D : Df K mg "law" s_law ["_law_script"] f fd) (T : BtL mg RC RG) (RR : RuC K mg RC) (RI : RiC K mg RG) (IC : C8.InsC K RG)
    {f1 : Addr} {fd1 : FuncData} (D_law_names : Df K mg "_law_names" s_law_names ["_law_cell_here"] f1 fd1) (G_law_names : FnOk P w K mg base CX0 3 f1 fd1 ["_law_cell_here"] spNames)
    {f2 : Addr} {fd2 : FuncData} (D_law_cell : Df K mg "_law_cell" s_law_cell ["_law_script", "_law_k"] f2 fd2) (G_law_cell : FnOk P w K mg base CX0 1 f2 fd2 ["_law_script", "_law_k"] (spCell K))
    {f3 : Addr} {fd3 : FuncData} (D_law_draws : Df K mg "_law_draws" s_law_draws ["_law_cell_here", "_law_salt", "_law_count", "_law_many"] f3 fd3) (G_law_draws : FnOk P w K mg base CX0 2 f3 fd3 ["_law_cell_here", "_law_salt", "_law_count", "_law_many"] spDraws)
    {f4 : Addr} {fd4 : FuncData} (D_law_entries : Df K mg "_law_entries" s_law_entries ["_law_locks"] f4 fd4) (G_law_entries : FnOk P w K mg base CX0 2 f4 fd4 ["_law_locks"] (spLEnts K))
    {f5 : Addr} {fd5 : FuncData} (D_law_is_rule : Df K mg "_law_is_rule" s_law_is_rule ["_law_rule", "_law_locks", "_law_due"] f5 fd5) (G_law_is_rule : FnOk P w K mg base CX0 5 f5 fd5 ["_law_rule", "_law_locks", "_law_due"] (spIsR K RC))
    {f6 : Addr} {fd6 : FuncData} (D_ring_of : Df K mg "ring_of" s_ring_of ["rule"] f6 fd6) (G_ring_of : FnOk P w K mg base CX0 10 f6 fd6 ["rule"] (spRof P w RC RG))
    {f7 : Addr} {fd7 : FuncData} (D_law_rising : Df K mg "_law_rising" s_law_rising ["_law_locks", "_law_order"] f7 fd7) (G_law_rising : FnOk P w K mg base CX0 3 f7 fd7 ["_law_locks", "_law_order"] (spRisO K))
    {f8 : Addr} {fd8 : FuncData} (D_law_gate : Df K mg "_law_gate" s_law_gate ["_law_locks", "_law_first"] f8 fd8) (G_law_gate : FnOk P w K mg base CX0 3 f8 fd8 ["_law_locks", "_law_first"] (spGatO K))
    {f9 : Addr} {fd9 : FuncData} (D_law_free_of_rings : Df K mg "_law_free_of_rings" s_law_free_of_rings ["_law_rule", "_law_some"] f9 fd9) (G_law_free_of_rings : FnOk P w K mg base CX0 11 f9 fd9 ["_law_rule", "_law_some"] (spFree RC))
    {f10 : Addr} {fd10 : FuncData} (D_within : Df K mg "within" s_within ["a", "b"] f10 fd10) (G_within : FnOk P w K mg base (L2.CX P w) 6 f10 fd10 ["a", "b"] (spWi RC OL))
    {mc1 mc2 mc3 : Value} {p1 fE p2 fR p3 fA : Addr} {fdE fdR fdA : FuncData} (ST_Rule_every : StaC K RC mc1 "every" p1 fE) (b_Rule_every : Binds K fdE ["locks"] []) (G_Rule_every : FnOk P w K mg base CX0 6 fE fdE ["locks"] (spMkN RC ens))
    (ST_Rule_rising : StaC K RC mc2 "rising" p2 fR) (b_Rule_rising : Binds K fdR ["locks"] []) (G_Rule_rising : FnOk P w K mg base CX0 8 fR fdR ["locks"] (spMkN RC risR))
    (ST_Rule_gate : StaC K RC mc3 "gate" p3 fA) (b_Rule_gate : Binds K fdA ["locks"] []) (G_Rule_gate : FnOk P w K mg base CX0 8 fA fdA ["locks"] (spMkN RC gatR))
    {pP gP pW gW : Addr} {dP dW : FuncData} (PR_Ring_programs : PropOf K RG "programs" pP gP) (bP_Ring_programs : Binds K dP ["self"] []) (G_Ring_programs : FnOk P w K mg base CX0 1 gP dP ["self"] (spRgP RG))
    (PR_Ring_wants : PropOf K RG "wants" pW gW) (bP_Ring_wants : Binds K dW ["self"] []) (G_Ring_wants : FnOk P w K mg base CX0 1 gW dW ["self"] (spRgW RG))
    {fI : Addr} {fdI : FuncData} (M_Rule : Mk K RC fI) (bI_Rule : Binds K fdI ["self", "locks", "entries"] []) (G_Rule_init : FnOk P w K mg base CX0 4 fI fdI ["self", "locks", "entries"] (spRuI RC K)) : FnOk P w K mg base CX0 13 f fd ["_law_script"] (spLaw K) := by
  refine D.F.ok sc_law (fun vs H Q E h => ?_) (fun cdv A outer s H vs Q E hr h => ?_)
  · obtain ⟨_, _, rfl, _⟩ := h
    rfl
  · obtain ⟨a, ns, rfl, hS, q⟩ := h
    have hu := hu_of hr
    refine ⟨_, (pss_cons (ps_set (i := 1) sc_law.nd rfl (Or.inl rfl) (pe_call G_law_names (hr.mono (by decide)) rfl D_law_names.g D_law_names.F.kp D_law_names.b .nil pass0 (pa_cons (pe_call G_law_cell (hr.mono (by decide)) rfl D_law_cell.g D_law_cell.F.kp D_law_cell.b .nil pass0 (pa_cons (pv 0) (pa_cons pe_int pa_nil))) pa_nil)))
      (pss_cons (ps_set (i := 2) sc_law.nd rfl (Or.inl rfl) (pe_call G_law_draws (hr.mono (by decide)) rfl D_law_draws.g D_law_draws.F.kp D_law_draws.b .nil pass0 (pa_cons (pe_call G_law_cell (hr.mono (by decide)) rfl D_law_cell.g D_law_cell.F.kp D_law_cell.b .nil pass0 (pa_cons (pv 0) (pa_cons pe_int pa_nil))) (pa_cons pe_int (pa_cons pe_int (pa_cons pe_int pa_nil))))))
      (pss_cons (ps_set (i := 1) sc_law.nd rfl (Or.inl rfl) (pe_stepL (pv 1) (pe_op op_sub pe_int (pe_op op_mul pe_int (pe_op op_mod (pe_op op_fdiv (pe_callTy (T := "int") (r := rInt1) call_int1 (by rfl) T.b_int (by decide +kernel) (pa_cons (pe_ix (r := rIxL K) ix_list (pv 2) pe_int (fun _ _ => rfl)) pa_nil)) pe_int) pe_int)))))
      (pss_cons (ps_set (i := 3) sc_law.nd rfl (Or.inl rfl) (pe_callTy call_tuple_of (by rfl) T.b_tuple (by decide +kernel) (pa_cons (pe_slice sl_list (pv 1) po_none (po_some (pe_ix (r := rIxL K) ix_list (pe_lst (pa_cons pe_int (pa_cons pe_int (pa_cons pe_int (pa_cons pe_int (pa_cons pe_int (pa_cons pe_int (pa_cons pe_int (pa_cons pe_int (pa_cons pe_int pa_nil)))))))))) (pe_op op_mod (pe_callTy (T := "int") (r := rInt1) call_int1 (by rfl) T.b_int (by decide +kernel) (pa_cons (pe_ix (r := rIxL K) ix_list (pv 2) pe_int (fun _ _ => rfl)) pa_nil)) pe_int) (fun _ _ => rfl)))) pa_nil)))
      (pss_cons (ps_set (i := 4) sc_law.nd rfl (Or.inl rfl) (pe_op op_mod (pe_callTy (T := "int") (r := rInt1) call_int1 (by rfl) T.b_int (by decide +kernel) (pa_cons (pe_ix (r := rIxL K) ix_list (pv 2) pe_int (fun _ _ => rfl)) pa_nil)) (pe_callB (id := "len") (r := Evl.rLenS K) call_len_seq (by rfl) T.b_len PySem.boot_len (pa_cons (pv 3) pa_nil))))
      (pss_cons (ps_set (i := 5) sc_law.nd rfl (Or.inl rfl) (pe_callTy call_list_of (by rfl) T.b_list (by decide +kernel) (pa_cons (pe_op op_catA (pe_slice sl_tupA (pv 3) (po_some (pv 4)) po_none) (pe_slice sl_tupA (pv 3) po_none (po_some (pv 4)))) pa_nil)))
      (pss_cons (ps_if (pt_cmpR op_eq (pe_op op_mod (pe_op op_fdiv (pe_callTy (T := "int") (r := rInt1) call_int1 (by rfl) T.b_int (by decide +kernel) (pa_cons (pe_ix (r := rIxL K) ix_list (pv 2) pe_int (fun _ _ => rfl)) pa_nil)) pe_int) pe_int) pe_int (nomark _)) (pss_one (ps_set (i := 5) sc_law.nd rfl (Or.inl rfl) (pe_revL (pv 5)))) pss_nil)
      (pss_cons (ps_set (i := 6) sc_law.nd rfl (Or.inr rfl) (pe_call G_law_draws (hr.mono (by decide)) rfl D_law_draws.g D_law_draws.F.kp D_law_draws.b .nil pass0 (pa_cons (pe_call G_law_cell (hr.mono (by decide)) rfl D_law_cell.g D_law_cell.F.kp D_law_cell.b .nil pass0 (pa_cons (pv 0) (pa_cons pe_int pa_nil))) (pa_cons pe_int (pa_cons pe_int (pa_cons pe_int pa_nil))))))
      (pss_cons (ps_set (i := 7) sc_law.nd rfl (Or.inr rfl) (pe_call G_law_entries (hr.mono (by decide)) rfl D_law_entries.g D_law_entries.F.kp D_law_entries.b .nil pass0 (pa_cons (pv 3) pa_nil)))
      (pss_cons (ps_set (i := 8) sc_law.nd rfl (Or.inl rfl) (pe_make M_Rule G_Rule_init (hr.mono (by decide)) rfl RR.k bI_Rule .nil pass0 (pa_cons (pv 3) (pa_cons (pe_lc (own := [("_law_k", 9)]) (g := (gName 9)) rfl sc_law.nd (pi_range1 rfl T.b_range (pa_cons (pe_callB (id := "len") (r := Evl.rLenS K) call_len_seq (by rfl) T.b_len PySem.boot_len (pa_cons (pv 7) pa_nil)) pa_nil)) (blkOk_by (N := ["_law_script", "_law_names_here", "_law_shape", "_law_locks", "_law_turn", "_law_order", "_law_bits", "_law_known", "_law_some", "_law_k", "_law_every", "_law_rising_here", "_law_gate_here", "_law_other", "_law_ring"]) (sc := defScope s_law) (by decide +kernel)) (fun _ _ _ _ _ => (pg_name (i := 9) sc_law.nd rfl (Or.inl rfl))) (fun _ _ _ _ _ => (pts_one (pt_cmpR op_eq (pe_ix (r := rIxL K) ix_list (pv 6) (pv 9) (fun _ _ => rfl)) pe_int (nomark _)))) (fun _ _ _ _ _ => (pe_ix (r := rIxL K) ix_list (pv 7) (pv 9) (fun _ _ => rfl)))) pa_nil))))
      (pss_cons (ps_set (i := 10) sc_law.nd rfl (Or.inl rfl) (pe_sta (pe_glob (v := .ref RC) rfl T.k_Rule rfl) ST_Rule_every G_Rule_every (hr.mono (by decide)) b_Rule_every .nil pass0 (pa_cons (pv 3) pa_nil)))
      (pss_cons (ps_set (i := 11) sc_law.nd rfl (Or.inl rfl) (pe_sta (pe_glob (v := .ref RC) rfl T.k_Rule rfl) ST_Rule_rising G_Rule_rising (hr.mono (by decide)) b_Rule_rising .nil pass0 (pa_cons (pv 3) pa_nil)))
      (pss_cons (ps_set (i := 12) sc_law.nd rfl (Or.inl rfl) (pe_sta (pe_glob (v := .ref RC) rfl T.k_Rule rfl) ST_Rule_gate G_Rule_gate (hr.mono (by decide)) b_Rule_gate .nil pass0 (pa_cons (pv 3) pa_nil)))
      (pss_cons (ps_if (PW.pt (pw_or (pt_not (pt_val (pe_call G_law_is_rule (hr.mono (by decide)) rfl D_law_is_rule.g D_law_is_rule.F.kp D_law_is_rule.b .nil pass0 (pa_cons (pv 10) (pa_cons (pv 3) (pa_cons (pv 7) pa_nil)))))) (pw_or1 (pt_not (pt_val (pe_call G_law_is_rule (hr.mono (by decide)) rfl D_law_is_rule.g D_law_is_rule.F.kp D_law_is_rule.b .nil pass0 (pa_cons (pv 11) (pa_cons (pv 3) (pa_cons (pe_call G_law_rising (hr.mono (by decide)) rfl D_law_rising.g D_law_rising.F.kp D_law_rising.b .nil pass0 (pa_cons (pv 3) (pa_cons (pe_callTy call_list_of (by rfl) T.b_list (by decide +kernel) (pa_cons (pv 3) pa_nil)) pa_nil))) pa_nil))))))))) (pss_one (ps_ret pe_bl)) pss_nil)
      (pss_cons (ps_if (pt_not (pt_val (pe_call G_law_is_rule (hr.mono (by decide)) rfl D_law_is_rule.g D_law_is_rule.F.kp D_law_is_rule.b .nil pass0 (pa_cons (pv 12) (pa_cons (pv 3) (pa_cons (pe_call G_law_gate (hr.mono (by decide)) rfl D_law_gate.g D_law_gate.F.kp D_law_gate.b .nil pass0 (pa_cons (pv 3) (pa_cons (pe_ix (r := rIxT K) ix_tup (pv 3) pe_int (fun _ _ => rfl)) pa_nil))) pa_nil)))))) (pss_one (ps_ret pe_bl)) pss_nil)
      (pss_cons (ps_if (PW.pt (pw_or (pt_not (pt_val (pe_call G_law_free_of_rings (hr.mono (by decide)) rfl D_law_free_of_rings.g D_law_free_of_rings.F.kp D_law_free_of_rings.b .nil pass0 (pa_cons (pv 11) (pa_cons (pv 8) pa_nil))))) (pw_or1 (pt_not (pt_val (pe_call G_law_free_of_rings (hr.mono (by decide)) rfl D_law_free_of_rings.g D_law_free_of_rings.F.kp D_law_free_of_rings.b .nil pass0 (pa_cons (pv 12) (pa_cons (pv 8) pa_nil)))))))) (pss_one (ps_ret pe_bl)) pss_nil)
      (pss_cons (ps_set (i := 13) sc_law.nd rfl (Or.inl rfl) (pe_ifExp (pt_cmpR op_eq (pe_op op_mod (pe_callTy (T := "int") (r := rInt1) call_int1 (by rfl) T.b_int (by decide +kernel) (pa_cons (pe_ix (r := rIxL K) ix_list (pv 2) pe_int (fun _ _ => rfl)) pa_nil)) pe_int) pe_int (nomark _)) (pe_call G_law_rising (hr.mono (by decide)) rfl D_law_rising.g D_law_rising.F.kp D_law_rising.b .nil pass0 (pa_cons (pv 3) (pa_cons (pv 5) pa_nil))) (pe_call G_law_gate (hr.mono (by decide)) rfl D_law_gate.g D_law_gate.F.kp D_law_gate.b .nil pass0 (pa_cons (pv 3) (pa_cons (pe_ix (r := rIxL K) ix_list (pv 5) pe_int (fun _ _ => rfl)) pa_nil)))))
      (pss_cons (ps_if (pt_cmpR op_notN (pe_call G_ring_of (hr.mono (by decide)) rfl D_ring_of.g D_ring_of.F.kp D_ring_of.b .nil pass0 (pa_cons (pe_make M_Rule G_Rule_init (hr.mono (by decide)) rfl RR.k bI_Rule .nil pass0 (pa_cons (pv 3) (pa_cons (pv 13) pa_nil))) pa_nil)) pe_non (nomark _)) (pss_one (ps_ret pe_bl)) pss_nil)
      (pss_cons (ps_if (pt_not (pt_val (pe_call G_law_is_rule (hr.mono (by decide)) rfl D_law_is_rule.g D_law_is_rule.F.kp D_law_is_rule.b .nil pass0 (pa_cons (pe_sta (pe_glob (v := .ref RC) rfl T.k_Rule rfl) ST_Rule_rising G_Rule_rising (hr.mono (by decide)) b_Rule_rising .nil pass0 (pa_cons (pe_callTy call_tuple_of (by rfl) T.b_tuple (by decide +kernel) (pa_cons (pv 5) pa_nil)) pa_nil)) (pa_cons (pv 5) (pa_cons (pe_call G_law_rising (hr.mono (by decide)) rfl D_law_rising.g D_law_rising.F.kp D_law_rising.b .nil pass0 (pa_cons (pv 5) (pa_cons (pv 5) pa_nil))) pa_nil)))))) (pss_one (ps_ret pe_bl)) pss_nil)
      (pss_cons (ps_if (pt_not (pt_val (pe_call G_law_is_rule (hr.mono (by decide)) rfl D_law_is_rule.g D_law_is_rule.F.kp D_law_is_rule.b .nil pass0 (pa_cons (pe_sta (pe_glob (v := .ref RC) rfl T.k_Rule rfl) ST_Rule_gate G_Rule_gate (hr.mono (by decide)) b_Rule_gate .nil pass0 (pa_cons (pe_callTy call_tuple_of (by rfl) T.b_tuple (by decide +kernel) (pa_cons (pv 5) pa_nil)) pa_nil)) (pa_cons (pv 5) (pa_cons (pe_call G_law_gate (hr.mono (by decide)) rfl D_law_gate.g D_law_gate.F.kp D_law_gate.b .nil pass0 (pa_cons (pv 5) (pa_cons (pe_ix (r := rIxL K) ix_list (pv 5) pe_int (fun _ _ => rfl)) pa_nil))) pa_nil)))))) (pss_one (ps_ret pe_bl)) pss_nil)
      (pss_cons (ps_if (pt_not (pt_val (pe_call G_law_is_rule (hr.mono (by decide)) rfl D_law_is_rule.g D_law_is_rule.F.kp D_law_is_rule.b .nil pass0 (pa_cons (pe_sta (pe_glob (v := .ref RC) rfl T.k_Rule rfl) ST_Rule_every G_Rule_every (hr.mono (by decide)) b_Rule_every .nil pass0 (pa_cons (pe_callTy call_tuple_of (by rfl) T.b_tuple (by decide +kernel) (pa_cons (pv 5) pa_nil)) pa_nil)) (pa_cons (pv 5) (pa_cons (pe_call G_law_entries (hr.mono (by decide)) rfl D_law_entries.g D_law_entries.F.kp D_law_entries.b .nil pass0 (pa_cons (pv 5) pa_nil)) pa_nil)))))) (pss_one (ps_ret pe_bl)) pss_nil)
      (pss_cons (ps_set (i := 14) sc_law.nd rfl (Or.inl rfl) (pe_call G_ring_of (hr.mono (by decide)) rfl D_ring_of.g D_ring_of.F.kp D_ring_of.b .nil pass0 (pa_cons (pv 10) pa_nil)))
      (pss_cons (ps_if (pt_cmpR op_eq (pe_callB (id := "len") (r := Evl.rLenS K) call_len_seq (by rfl) T.b_len PySem.boot_len (pa_cons (pv 3) pa_nil)) pe_int (nomark _)) (pss_one (ps_ret (pe_cmpR op_isN (pv 14) pe_non (nomark _)))) pss_nil)
      (pss_cons (ps_if (PW.pt (pw_or (pt_not (pt_val (pe_callB (id := "isinstance") (r := rIsi K) call_isi (by rfl) T.b_isinstance (by decide +kernel) (pa_cons (pv 14) (pa_cons (pe_glob (v := .ref RG) rfl T.k_Ring rfl) pa_nil))))) (pw_or (pt_cmpR op_ne (pe_callB (id := "len") (r := Evl.rLenS K) call_len_seq (by rfl) T.b_len PySem.boot_len (pa_cons (pe_prop (pv 14) RI.cl PR_Ring_programs G_Ring_programs (hr.mono (by decide)) bP_Ring_programs .nil pass0 (by first | rfl | (intros; rfl))) pa_nil)) pe_int (nomark _)) (pw_or1 (pt_cmpR op_ne (pe_callB (id := "len") (r := Evl.rLenS K) call_len_seq (by rfl) T.b_len PySem.boot_len (pa_cons (pe_prop (pv 14) RI.cl PR_Ring_wants G_Ring_wants (hr.mono (by decide)) bP_Ring_wants .nil pass0 (by first | rfl | (intros; rfl))) pa_nil)) pe_int (nomark _)))))) (pss_one (ps_ret pe_bl)) pss_nil)
      (pss_cons (ps_if (PW.pt (pw_or (pt_cmpR op_isnot_bl (pe_call G_within (hr.mono (by decide)) rfl D_within.g D_within.F.kp D_within.b .nil passL (pa_cons (pv 11) (pa_cons (pv 10) pa_nil))) pe_bl (nomark _)) (pw_or1 (pt_cmpR op_isnot_bl (pe_call G_within (hr.mono (by decide)) rfl D_within.g D_within.F.kp D_within.b .nil passL (pa_cons (pv 12) (pa_cons (pv 10) pa_nil))) pe_bl (nomark _))))) (pss_one (ps_ret pe_bl)) pss_nil)
      (pss_one (ps_ret (pe_and (pe_cmpR op_is_bl (pe_call G_within (hr.mono (by decide)) rfl D_within.g D_within.F.kp D_within.b .nil passL (pa_cons (pv 10) (pa_cons (pv 12) pa_nil))) pe_bl (nomark _)) (pe_one (pe_cmpR op_is_bl (pe_call G_within (hr.mono (by decide)) rfl D_within.g D_within.F.kp D_within.b .nil passL (pa_cons (pv 10) (pa_cons (pv 11) pa_nil))) pe_bl (nomark _))))))))))))))))))))))))))))))), ?_⟩
    refine seq_step ?_
    try simp (maxSteps := 1000000) only [tIfS, tTest, tOp, tUn, tCB, tCons, tNil, tVar, tC, rI0, rI, rU, rEq, rNe, tRet, tRetN, tAsg, gName, gSub, tBM, tBM0, tNext, tB, tNot, tAnd, tOr, tIf, tCall, tDrop, tBreak, tCont, L2.start, tDGet, sDPut, tTup, tLst, tDNewK, tRevL, rCat, rAppend, rPop, rSetL, tAndV, tOrV, tNotV, tSl, tPart, tNoPart, tM1, gTup, gCons, gNil, cxK, cxnK, List.map_cons, List.map_nil, List.length_cons, List.length_nil, List.replicate, List.cons_append, List.nil_append, List.append_nil, List.set_cons_zero, List.set_cons_succ, List.getElem?_cons_zero, List.getElem?_cons_succ, Option.some.injEq, V.ref.injEq, V.int.injEq, V.str.injEq, V.bl.injEq, V.ty.injEq, exists_eq_left', exists_eq_left, exists_and_left, List.cons.injEq, and_true, true_and, sc_ii, sc_ss, sc_bb, sc_ni, sc_in, sc_is, sc_si, sc_nn, decide_true, decide_false, reduceCtorEq, Bool.false_eq_true, if_true, if_false, ite_true, ite_false, exists_const, eq_self, false_and, and_false, or_false, false_or, exists_false, Evl.rLenS, rSum, wipe, tYes, exists_eq, exists_eq', rIxL, rIxT, rIxS, exists_and_right, gt_iff_lt, not_true_eq_false, not_false_eq_true, Bool.not_true, Bool.not_false, decide_eq_true_eq, Nat.reduceSub, Nat.reduceAdd, List.append_assoc, tChain, tDIn, tDNotIn, sDDel, tAug, ipI, rInt1_int, rInt1_bl]
    refine ⟨a, 0, ns, rfl, hS, fun c0 => ⟨c0, rfl, fun nl0 zs0 H1 nnl0 hnl0 l30 L0 k1 => ?_⟩⟩
    dsimp only
    have hS1 : Scr K H1 a ns := ⟨k1.ls not0 hS.1, hS.2⟩
    refine seq_step ?_
    try simp (maxSteps := 1000000) only [tIfS, tTest, tOp, tUn, tCB, tCons, tNil, tVar, tC, rI0, rI, rU, rEq, rNe, tRet, tRetN, tAsg, gName, gSub, tBM, tBM0, tNext, tB, tNot, tAnd, tOr, tIf, tCall, tDrop, tBreak, tCont, L2.start, tDGet, sDPut, tTup, tLst, tDNewK, tRevL, rCat, rAppend, rPop, rSetL, tAndV, tOrV, tNotV, tSl, tPart, tNoPart, tM1, gTup, gCons, gNil, cxK, cxnK, List.map_cons, List.map_nil, List.length_cons, List.length_nil, List.replicate, List.cons_append, List.nil_append, List.append_nil, List.set_cons_zero, List.set_cons_succ, List.getElem?_cons_zero, List.getElem?_cons_succ, Option.some.injEq, V.ref.injEq, V.int.injEq, V.str.injEq, V.bl.injEq, V.ty.injEq, exists_eq_left', exists_eq_left, exists_and_left, List.cons.injEq, and_true, true_and, sc_ii, sc_ss, sc_bb, sc_ni, sc_in, sc_is, sc_si, sc_nn, decide_true, decide_false, reduceCtorEq, Bool.false_eq_true, if_true, if_false, ite_true, ite_false, exists_const, eq_self, false_and, and_false, or_false, false_or, exists_false, Evl.rLenS, rSum, wipe, tYes, exists_eq, exists_eq', rIxL, rIxT, rIxS, exists_and_right, gt_iff_lt, not_true_eq_false, not_false_eq_true, Bool.not_true, Bool.not_false, decide_eq_true_eq, Nat.reduceSub, Nat.reduceAdd, List.append_assoc, tChain, tDIn, tDNotIn, sDDel, tAug, ipI, rInt1_int, rInt1_bl]
    refine ⟨a, 1, ns, rfl, hS1, fun c1 => ⟨c1, 1, 3, 90, rfl, by decide, by decide, by decide, fun sl ds H2 nsl hsl hds k2 => ?_⟩⟩
    dsimp only
    obtain ⟨x0, x1, x2, rfl⟩ : ∃ x0 x1 x2, ds = [x0, x1, x2] := by
      match ds, hds.1 with
      | [x0, x1, x2], _ => exact ⟨_, _, _, rfl⟩
    have o0 : atI ([x0, x1, x2].map V.int) 0 = some (.int x0) := (show atI _ ((0 : Nat) : Int) = _ from atI_nat rfl)
    have o1 : atI ([x0, x1, x2].map V.int) 1 = some (.int x1) := (show atI _ ((1 : Nat) : Int) = _ from atI_nat rfl)
    have o2 : atI ([x0, x1, x2].map V.int) 2 = some (.int x2) := (show atI _ ((2 : Nat) : Int) = _ from atI_nat rfl)
    have b0 := hds.2 x0 (by simp)
    have b1 := hds.2 x1 (by simp)
    have b2 := hds.2 x2 (by simp)
    have hnl2 := k2 _ _ not0 hnl0
    refine seq_step ?_
    try simp (maxSteps := 1000000) only [tIfS, tTest, tOp, tUn, tCB, tCons, tNil, tVar, tC, rI0, rI, rU, rEq, rNe, tRet, tRetN, tAsg, gName, gSub, tBM, tBM0, tNext, tB, tNot, tAnd, tOr, tIf, tCall, tDrop, tBreak, tCont, L2.start, tDGet, sDPut, tTup, tLst, tDNewK, tRevL, rCat, rAppend, rPop, rSetL, tAndV, tOrV, tNotV, tSl, tPart, tNoPart, tM1, gTup, gCons, gNil, cxK, cxnK, List.map_cons, List.map_nil, List.length_cons, List.length_nil, List.replicate, List.cons_append, List.nil_append, List.append_nil, List.set_cons_zero, List.set_cons_succ, List.getElem?_cons_zero, List.getElem?_cons_succ, Option.some.injEq, V.ref.injEq, V.int.injEq, V.str.injEq, V.bl.injEq, V.ty.injEq, exists_eq_left', exists_eq_left, exists_and_left, List.cons.injEq, and_true, true_and, sc_ii, sc_ss, sc_bb, sc_ni, sc_in, sc_is, sc_si, sc_nn, decide_true, decide_false, reduceCtorEq, Bool.false_eq_true, if_true, if_false, ite_true, ite_false, exists_const, eq_self, false_and, and_false, or_false, false_or, exists_false, Evl.rLenS, rSum, wipe, tYes, exists_eq, exists_eq', rIxL, rIxT, rIxS, exists_and_right, gt_iff_lt, not_true_eq_false, not_false_eq_true, Bool.not_true, Bool.not_false, decide_eq_true_eq, Nat.reduceSub, Nat.reduceAdd, List.append_assoc, tChain, tDIn, tDNotIn, sDDel, tAug, ipI, rInt1_int, rInt1_bl, tStepL]
    refine ⟨_, sq_l hsl, _, o0, .inl ⟨_, rfl, _, rfl, ⟨by decide, by decide⟩, by decide, ?_, by omega, _, sq_l hnl2, fun nl nnl => ?_⟩⟩
    · exact cmul2
    obtain ⟨zs1, hz1, hz1l, L1⟩ : ∃ zs1, (if 1 - 2 * (x0 / 9 % 2) = 1 then zs0.map V.str else (zs0.map V.str).reverse) = zs1.map V.str ∧ zs1.length = 3 ∧ LkOk zs1 := by
      split
      · exact ⟨zs0, rfl, l30, L0⟩
      · exact ⟨zs0.reverse, by rw [List.map_reverse], by rw [List.length_reverse]; exact l30, L0.rev⟩
    rw [hz1]
    have k3 := (Kp.new nnl : Kp [] H2 (upd H2 nl (.lst (zs1.map V.str))))
    have hnl : (upd H2 nl (.lst (zs1.map V.str))) nl = some (.lst (zs1.map V.str)) := upd_same
    generalize upd H2 nl (.lst (zs1.map V.str)) = H3 at k3 hnl ⊢
    have hsl3 := k3 _ _ not0 hsl
    have hS3 : Scr K H3 a ns := ⟨(k2.trans k3).ls not0 hS1.1, hS.2⟩
    refine seq_step ?_
    try simp (maxSteps := 1000000) only [tIfS, tTest, tOp, tUn, tCB, tCons, tNil, tVar, tC, rI0, rI, rU, rEq, rNe, tRet, tRetN, tAsg, gName, gSub, tBM, tBM0, tNext, tB, tNot, tAnd, tOr, tIf, tCall, tDrop, tBreak, tCont, L2.start, tDGet, sDPut, tTup, tLst, tDNewK, tRevL, rCat, rAppend, rPop, rSetL, tAndV, tOrV, tNotV, tSl, tPart, tNoPart, tM1, gTup, gCons, gNil, cxK, cxnK, List.map_cons, List.map_nil, List.length_cons, List.length_nil, List.replicate, List.cons_append, List.nil_append, List.append_nil, List.set_cons_zero, List.set_cons_succ, List.getElem?_cons_zero, List.getElem?_cons_succ, Option.some.injEq, V.ref.injEq, V.int.injEq, V.str.injEq, V.bl.injEq, V.ty.injEq, exists_eq_left', exists_eq_left, exists_and_left, List.cons.injEq, and_true, true_and, sc_ii, sc_ss, sc_bb, sc_ni, sc_in, sc_is, sc_si, sc_nn, decide_true, decide_false, reduceCtorEq, Bool.false_eq_true, if_true, if_false, ite_true, ite_false, exists_const, eq_self, false_and, and_false, or_false, false_or, exists_false, Evl.rLenS, rSum, wipe, tYes, exists_eq, exists_eq', rIxL, rIxT, rIxS, exists_and_right, gt_iff_lt, not_true_eq_false, not_false_eq_true, Bool.not_true, Bool.not_false, decide_eq_true_eq, Nat.reduceSub, Nat.reduceAdd, List.append_assoc, tChain, tDIn, tDNotIn, sDDel, tAug, ipI, rInt1_int, rInt1_bl]
    refine ⟨by rw [sizeLine_eq]; decide, fun p np => ?_⟩
    have kp := (Kp.new np : Kp [] H3 (upd H3 p (.lst [.int 3, .int 1, .int 2, .int 2, .int 3, .int 3, .int 3, .int 3, .int 3])))
    have hp : (upd H3 p (.lst [.int 3, .int 1, .int 2, .int 2, .int 3, .int 3, .int 3, .int 3, .int 3])) p = some (.lst [.int 3, .int 1, .int 2, .int 2, .int 3, .int 3, .int 3, .int 3, .int 3]) := upd_same
    generalize upd H3 p (.lst [.int 3, .int 1, .int 2, .int 2, .int 3, .int 3, .int 3, .int 3, .int 3]) = H4 at kp hp ⊢
    refine ⟨_, sq_l (kp _ _ not0 hsl3), _, o0, .inl ⟨_, rfl, _, rfl, by decide, _, sq_l hp, ?_⟩⟩
    obtain ⟨n, en, hn⟩ : ∃ n : Nat, x0 % 9 = (n : Nat) ∧ n < 9 := ⟨(x0 % 9).toNat, by omega, by omega⟩
    obtain ⟨y, ey, y1, y3⟩ := cnt_tab n hn
    rw [en]
    refine ⟨.int (y : Nat), atI_nat ?_, _, rfl, nl, _, rfl, sq_l (kp _ _ not0 hnl), fun l5 nl5 => ⟨l5, rfl, _, .inl ⟨sq_l upd_same, fun ta nta => ?_⟩⟩⟩
    · show (([3, 1, 2, 2, 3, 3, 3, 3, 3] : List Nat).map fun (y : Nat) => V.int (y : Nat))[n]? = _
      rw [List.getElem?_map, ey]
      rfl
    rw [cut_0j] at nta ⊢
    have L := L1.tk (m := y) y1
    have k5 := (kp.trans (Kp.new nl5 (o := .lst ((zs1.take y).map V.str)))).trans (Kp.new nta (o := .tup ((zs1.take y).map V.str)))
    have hta : (upd (upd H4 l5 (.lst ((zs1.take y).map V.str))) ta (.tup ((zs1.take y).map V.str))) ta = some (.tup ((zs1.take y).map V.str)) := upd_same
    generalize upd (upd H4 l5 (.lst ((zs1.take y).map V.str))) ta (.tup ((zs1.take y).map V.str)) = H5 at k5 hta ⊢
    generalize zs1.take y = zs at L hta
    have hsl5 := k5 _ _ not0 hsl3
    have hS5 : Scr K H5 a ns := ⟨k5.ls not0 hS3.1, hS.2⟩
    have n1 := L.pos
    have n3 := L.le
    have E := factE (n := zs.length) (by omega) n1
    refine seq_step ?_
    try simp (maxSteps := 1000000) only [tIfS, tTest, tOp, tUn, tCB, tCons, tNil, tVar, tC, rI0, rI, rU, rEq, rNe, tRet, tRetN, tAsg, gName, gSub, tBM, tBM0, tNext, tB, tNot, tAnd, tOr, tIf, tCall, tDrop, tBreak, tCont, L2.start, tDGet, sDPut, tTup, tLst, tDNewK, tRevL, rCat, rAppend, rPop, rSetL, tAndV, tOrV, tNotV, tSl, tPart, tNoPart, tM1, gTup, gCons, gNil, cxK, cxnK, List.map_cons, List.map_nil, List.length_cons, List.length_nil, List.replicate, List.cons_append, List.nil_append, List.append_nil, List.set_cons_zero, List.set_cons_succ, List.getElem?_cons_zero, List.getElem?_cons_succ, Option.some.injEq, V.ref.injEq, V.int.injEq, V.str.injEq, V.bl.injEq, V.ty.injEq, exists_eq_left', exists_eq_left, exists_and_left, List.cons.injEq, and_true, true_and, sc_ii, sc_ss, sc_bb, sc_ni, sc_in, sc_is, sc_si, sc_nn, decide_true, decide_false, reduceCtorEq, Bool.false_eq_true, if_true, if_false, ite_true, ite_false, exists_const, eq_self, false_and, and_false, or_false, false_or, exists_false, Evl.rLenS, rSum, wipe, tYes, exists_eq, exists_eq', rIxL, rIxT, rIxS, exists_and_right, gt_iff_lt, not_true_eq_false, not_false_eq_true, Bool.not_true, Bool.not_false, decide_eq_true_eq, Nat.reduceSub, Nat.reduceAdd, List.append_assoc, tChain, tDIn, tDNotIn, sDDel, tAug, ipI, rInt1_int, rInt1_bl]
    refine ⟨_, sq_l hsl5, _, o1, .inl ⟨_, rfl, _, .inr (sq_t hta), ?_⟩⟩
    rw [List.length_map]
    obtain ⟨tn, etn, htn⟩ : ∃ tn : Nat, x1 % (zs.length : Nat) = (tn : Nat) ∧ tn < zs.length := ⟨(x1 % (zs.length : Nat)).toNat, by have := Int.emod_nonneg x1 (b := (zs.length : Nat)) (by omega); omega, by have := Int.emod_nonneg x1 (b := (zs.length : Nat)) (by omega); have := Int.emod_lt_of_pos x1 (b := (zs.length : Nat)) (by omega); omega⟩
    refine ⟨x1, rfl, by omega, ?_⟩
    rw [etn]
    refine seq_step ?_
    try simp (maxSteps := 1000000) only [tIfS, tTest, tOp, tUn, tCB, tCons, tNil, tVar, tC, rI0, rI, rU, rEq, rNe, tRet, tRetN, tAsg, gName, gSub, tBM, tBM0, tNext, tB, tNot, tAnd, tOr, tIf, tCall, tDrop, tBreak, tCont, L2.start, tDGet, sDPut, tTup, tLst, tDNewK, tRevL, rCat, rAppend, rPop, rSetL, tAndV, tOrV, tNotV, tSl, tPart, tNoPart, tM1, gTup, gCons, gNil, cxK, cxnK, List.map_cons, List.map_nil, List.length_cons, List.length_nil, List.replicate, List.cons_append, List.nil_append, List.append_nil, List.set_cons_zero, List.set_cons_succ, List.getElem?_cons_zero, List.getElem?_cons_succ, Option.some.injEq, V.ref.injEq, V.int.injEq, V.str.injEq, V.bl.injEq, V.ty.injEq, exists_eq_left', exists_eq_left, exists_and_left, List.cons.injEq, and_true, true_and, sc_ii, sc_ss, sc_bb, sc_ni, sc_in, sc_is, sc_si, sc_nn, decide_true, decide_false, reduceCtorEq, Bool.false_eq_true, if_true, if_false, ite_true, ite_false, exists_const, eq_self, false_and, and_false, or_false, false_or, exists_false, Evl.rLenS, rSum, wipe, tYes, exists_eq, exists_eq', rIxL, rIxT, rIxS, exists_and_right, gt_iff_lt, not_true_eq_false, not_false_eq_true, Bool.not_true, Bool.not_false, decide_eq_true_eq, Nat.reduceSub, Nat.reduceAdd, List.append_assoc, tChain, tDIn, tDNotIn, sDDel, tAug, ipI, rInt1_int, rInt1_bl]
    refine slA (sq_t hta) fun b1 H6 hb1 k6 => slA (sq_t (k6 _ _ not0 hta)) fun b2 H7 hb2 k7 => catA (k7.tp not0 hb1) hb2 ?_ fun b3 H8 hb3 k8 => ⟨b3, rfl, _, .inr hb3, fun ol0 nol0 => ?_⟩
    · rw [cut_from, cut_0j, List.length_drop, List.length_map, List.length_map, List.length_take]
      exact small (by omega)
    rw [show cutV (zs.map V.str) (some (tn : Int)) none ++ cutV (zs.map V.str) none (some (tn : Int)) = (nmH zs (ordW zs.length tn false)).map V.str by rw [cut_from, cut_0j, ← List.map_drop, ← List.map_append, ord_zs]]
    have k58 := ((k6.trans k7).trans k8).trans (Kp.new nol0 (o := .lst ((nmH zs (ordW zs.length tn false)).map V.str)))
    have hol0 : (upd H8 ol0 (.lst ((nmH zs (ordW zs.length tn false)).map V.str))) ol0 = some (.lst ((nmH zs (ordW zs.length tn false)).map V.str)) := upd_same
    generalize upd H8 ol0 (.lst ((nmH zs (ordW zs.length tn false)).map V.str)) = H9 at k58 hol0 ⊢
    have hsl9 := k58 _ _ not0 hsl5
    refine seq_cut (fun σ H' => ∃ (ol : Addr) (b : Bool), σ = [some (.ref a), some (.ref nl), some (.ref sl), some (.ref ta), some (.int (tn : Nat)), some (.ref ol), none, none, none, none, none, none, none, none, none] ∧ H' ol = some (.lst ((nmH zs (ordW zs.length tn b)).map V.str)) ∧ Kp [] H9 H') (fun Tn hT => ?_) ?_
    · try simp (maxSteps := 1000000) only [tSeq, tIfS, tTest, tOp, tUn, tCB, tCons, tNil, tVar, tC, rI0, rI, rU, rEq, rNe, tRet, tRetN, tAsg, gName, gSub, tBM, tBM0, tNext, tB, tNot, tAnd, tOr, tIf, tCall, tDrop, tBreak, tCont, L2.start, tDGet, sDPut, tTup, tLst, tDNewK, tRevL, rCat, rAppend, rPop, rSetL, tAndV, tOrV, tNotV, tSl, tPart, tNoPart, tM1, gTup, gCons, gNil, cxK, cxnK, List.map_cons, List.map_nil, List.length_cons, List.length_nil, List.replicate, List.cons_append, List.nil_append, List.append_nil, List.set_cons_zero, List.set_cons_succ, List.getElem?_cons_zero, List.getElem?_cons_succ, Option.some.injEq, V.ref.injEq, V.int.injEq, V.str.injEq, V.bl.injEq, V.ty.injEq, exists_eq_left', exists_eq_left, exists_and_left, List.cons.injEq, and_true, true_and, sc_ii, sc_ss, sc_bb, sc_ni, sc_in, sc_is, sc_si, sc_nn, decide_true, decide_false, reduceCtorEq, Bool.false_eq_true, if_true, if_false, ite_true, ite_false, exists_const, eq_self, false_and, and_false, or_false, false_or, exists_false, Evl.rLenS, rSum, wipe, tYes, exists_eq, exists_eq', rIxL, rIxT, rIxS, exists_and_right, gt_iff_lt, not_true_eq_false, not_false_eq_true, Bool.not_true, Bool.not_false, decide_eq_true_eq, Nat.reduceSub, Nat.reduceAdd, List.append_assoc, tChain, tDIn, tDNotIn, sDDel, tAug, ipI, rInt1_int, rInt1_bl]
      refine ⟨_, sq_l hsl9, _, o1, .inl ⟨_, rfl, _, rfl, ?_⟩⟩
      refine ⟨⟨by decide, by decide⟩, by decide, ?_⟩
      split
      · refine ⟨_, sq_l hol0, fun p np => ?_⟩
        rw [← List.map_reverse, show (nmH zs (ordW zs.length tn false)).reverse = nmH zs (ordW zs.length tn true) by rw [← ord_zs, ord_zr]]
        exact hT _ _ ⟨p, true, rfl, upd_same, Kp.new np⟩
      · exact hT _ _ ⟨ol0, false, rfl, hol0, Kp.refl _ _⟩
    rintro σ H10 ⟨ol, ob, rfl, hol, k10⟩
    have k510 := k58.trans k10
    have hta10 := k510 _ _ not0 hta
    have hsl10 := k510 _ _ not0 hsl5
    have hS10 : Scr K H10 a ns := ⟨k510.ls not0 hS5.1, hS.2⟩
    obtain ⟨W0, fW, lW⟩ := ord_ok0 zs.length (by omega) n1 tn htn ob
    have W := okW_of W0
    generalize ordW zs.length tn ob = ws at hol W fW lW
    have LY := ord_lk L W lW
    refine seq_step ?_
    try simp (maxSteps := 1000000) only [tIfS, tTest, tOp, tUn, tCB, tCons, tNil, tVar, tC, rI0, rI, rU, rEq, rNe, tRet, tRetN, tAsg, gName, gSub, tBM, tBM0, tNext, tB, tNot, tAnd, tOr, tIf, tCall, tDrop, tBreak, tCont, L2.start, tDGet, sDPut, tTup, tLst, tDNewK, tRevL, rCat, rAppend, rPop, rSetL, tAndV, tOrV, tNotV, tSl, tPart, tNoPart, tM1, gTup, gCons, gNil, cxK, cxnK, List.map_cons, List.map_nil, List.length_cons, List.length_nil, List.replicate, List.cons_append, List.nil_append, List.append_nil, List.set_cons_zero, List.set_cons_succ, List.getElem?_cons_zero, List.getElem?_cons_succ, Option.some.injEq, V.ref.injEq, V.int.injEq, V.str.injEq, V.bl.injEq, V.ty.injEq, exists_eq_left', exists_eq_left, exists_and_left, List.cons.injEq, and_true, true_and, sc_ii, sc_ss, sc_bb, sc_ni, sc_in, sc_is, sc_si, sc_nn, decide_true, decide_false, reduceCtorEq, Bool.false_eq_true, if_true, if_false, ite_true, ite_false, exists_const, eq_self, false_and, and_false, or_false, false_or, exists_false, Evl.rLenS, rSum, wipe, tYes, exists_eq, exists_eq', rIxL, rIxT, rIxS, exists_and_right, gt_iff_lt, not_true_eq_false, not_false_eq_true, Bool.not_true, Bool.not_false, decide_eq_true_eq, Nat.reduceSub, Nat.reduceAdd, List.append_assoc, tChain, tDIn, tDNotIn, sDDel, tAug, ipI, rInt1_int, rInt1_bl]
    refine ⟨a, 2, ns, rfl, hS10, fun c2 => ⟨c2, 2, 12, 2, rfl, by decide, by decide, by decide, fun bl bs H11 nbl hbl hbs k11 => ?_⟩⟩
    dsimp only
    refine seq_step ?_
    try simp (maxSteps := 1000000) only [tIfS, tTest, tOp, tUn, tCB, tCons, tNil, tVar, tC, rI0, rI, rU, rEq, rNe, tRet, tRetN, tAsg, gName, gSub, tBM, tBM0, tNext, tB, tNot, tAnd, tOr, tIf, tCall, tDrop, tBreak, tCont, L2.start, tDGet, sDPut, tTup, tLst, tDNewK, tRevL, rCat, rAppend, rPop, rSetL, tAndV, tOrV, tNotV, tSl, tPart, tNoPart, tM1, gTup, gCons, gNil, cxK, cxnK, List.map_cons, List.map_nil, List.length_cons, List.length_nil, List.replicate, List.cons_append, List.nil_append, List.append_nil, List.set_cons_zero, List.set_cons_succ, List.getElem?_cons_zero, List.getElem?_cons_succ, Option.some.injEq, V.ref.injEq, V.int.injEq, V.str.injEq, V.bl.injEq, V.ty.injEq, exists_eq_left', exists_eq_left, exists_and_left, List.cons.injEq, and_true, true_and, sc_ii, sc_ss, sc_bb, sc_ni, sc_in, sc_is, sc_si, sc_nn, decide_true, decide_false, reduceCtorEq, Bool.false_eq_true, if_true, if_false, ite_true, ite_false, exists_const, eq_self, false_and, and_false, or_false, false_or, exists_false, Evl.rLenS, rSum, wipe, tYes, exists_eq, exists_eq', rIxL, rIxT, rIxS, exists_and_right, gt_iff_lt, not_true_eq_false, not_false_eq_true, Bool.not_true, Bool.not_false, decide_eq_true_eq, Nat.reduceSub, Nat.reduceAdd, List.append_assoc, tChain, tDIn, tDNotIn, sDDel, tAug, ipI, rInt1_int, rInt1_bl]
    refine ⟨ta, zs, rfl, L, .inr (sq_t (k11 _ _ not0 hta10)), fun kl us H12 nkl hkl hus k12 => ?_⟩
    dsimp only
    have k1012 := k11.trans k12
    have hta12 := k1012 _ _ not0 hta10
    have hol12 := k1012 _ _ not0 hol
    have hsl12 := k1012 _ _ not0 hsl10
    have hbl12 := k12 _ _ not0 hbl
    have l12 := E.len
    refine seq_step ?_
    try simp (maxSteps := 1000000) only [tIfS, tTest, tOp, tUn, tCB, tCons, tNil, tVar, tC, rI0, rI, rU, rEq, rNe, tRet, tRetN, tAsg, gName, gSub, tBM, tBM0, tNext, tB, tNot, tAnd, tOr, tIf, tCall, tDrop, tBreak, tCont, L2.start, tDGet, sDPut, tTup, tLst, tDNewK, tRevL, rCat, rAppend, rPop, rSetL, tAndV, tOrV, tNotV, tSl, tPart, tNoPart, tM1, gTup, gCons, gNil, cxK, cxnK, List.map_cons, List.map_nil, List.length_cons, List.length_nil, List.replicate, List.cons_append, List.nil_append, List.append_nil, List.set_cons_zero, List.set_cons_succ, List.getElem?_cons_zero, List.getElem?_cons_succ, Option.some.injEq, V.ref.injEq, V.int.injEq, V.str.injEq, V.bl.injEq, V.ty.injEq, exists_eq_left', exists_eq_left, exists_and_left, List.cons.injEq, and_true, true_and, sc_ii, sc_ss, sc_bb, sc_ni, sc_in, sc_is, sc_si, sc_nn, decide_true, decide_false, reduceCtorEq, Bool.false_eq_true, if_true, if_false, ite_true, ite_false, exists_const, eq_self, false_and, and_false, or_false, false_or, exists_false, Evl.rLenS, rSum, wipe, tYes, exists_eq, exists_eq', rIxL, rIxT, rIxS, exists_and_right, gt_iff_lt, not_true_eq_false, not_false_eq_true, Bool.not_true, Bool.not_false, decide_eq_true_eq, Nat.reduceSub, Nat.reduceAdd, List.append_assoc, tChain, tDIn, tDNotIn, sDDel, tAug, ipI, rInt1_int, rInt1_bl, tMake]
    refine lcRg (ens zs.length).length (by omega) (fun D i H' => ∃ (vs : List V) (gs : List En), H' D = some (.lst vs) ∧ Rw (ET zs H') vs gs ∧ (∀ g ∈ gs, g ∈ ens zs.length) ∧ gs.length ≤ i ∧ Kp [] H12 H') (fun R h => ?_) (fun D nD => ⟨[], [], upd_same, .nil, (fun _ h => nomatch h), Nat.le_refl _, Kp.new nD⟩) ?_ ?_
    · try simp (maxSteps := 1000000) only [tSeq, tIfS, tTest, tOp, tUn, tCB, tCons, tNil, tVar, tC, rI0, rI, rU, rEq, rNe, tRet, tRetN, tAsg, gName, gSub, tBM, tBM0, tNext, tB, tNot, tAnd, tOr, tIf, tCall, tDrop, tBreak, tCont, L2.start, tDGet, sDPut, tTup, tLst, tDNewK, tRevL, rCat, rAppend, rPop, rSetL, tAndV, tOrV, tNotV, tSl, tPart, tNoPart, tM1, gTup, gCons, gNil, cxK, cxnK, List.map_cons, List.map_nil, List.length_cons, List.length_nil, List.replicate, List.cons_append, List.nil_append, List.append_nil, List.set_cons_zero, List.set_cons_succ, List.getElem?_cons_zero, List.getElem?_cons_succ, Option.some.injEq, V.ref.injEq, V.int.injEq, V.str.injEq, V.bl.injEq, V.ty.injEq, exists_eq_left', exists_eq_left, exists_and_left, List.cons.injEq, and_true, true_and, sc_ii, sc_ss, sc_bb, sc_ni, sc_in, sc_is, sc_si, sc_nn, decide_true, decide_false, reduceCtorEq, Bool.false_eq_true, if_true, if_false, ite_true, ite_false, exists_const, eq_self, false_and, and_false, or_false, false_or, exists_false, Evl.rLenS, rSum, wipe, tYes, exists_eq, exists_eq', rIxL, rIxT, rIxS, exists_and_right, gt_iff_lt, not_true_eq_false, not_false_eq_true, Bool.not_true, Bool.not_false, decide_eq_true_eq, Nat.reduceSub, Nat.reduceAdd, List.append_assoc, tChain, tDIn, tDNotIn, sDDel, tAug, ipI, rInt1_int, rInt1_bl]
      refine ⟨_, .inl (sq_l hkl), ?_⟩
      rw [hus.len]
      exact h
    · rintro D i H13 nD hi ⟨vs, gs, hD, hgs, hin, lg, k13⟩
      obtain ⟨e, ee⟩ : ∃ e, (ens zs.length)[i]? = some e := ⟨_, List.getElem?_eq_getElem hi⟩
      obtain ⟨v, ev, hv⟩ := hus.at ee
      have lb : i < bs.length := by rw [hbs.1]; omega
      refine ⟨by simp [wipe], ?_⟩
      try simp (maxSteps := 1000000) only [tSeq, tIfS, tTest, tOp, tUn, tCB, tCons, tNil, tVar, tC, rI0, rI, rU, rEq, rNe, tRet, tRetN, tAsg, gName, gSub, tBM, tBM0, tNext, tB, tNot, tAnd, tOr, tIf, tCall, tDrop, tBreak, tCont, L2.start, tDGet, sDPut, tTup, tLst, tDNewK, tRevL, rCat, rAppend, rPop, rSetL, tAndV, tOrV, tNotV, tSl, tPart, tNoPart, tM1, gTup, gCons, gNil, cxK, cxnK, List.map_cons, List.map_nil, List.length_cons, List.length_nil, List.replicate, List.cons_append, List.nil_append, List.append_nil, List.set_cons_zero, List.set_cons_succ, List.getElem?_cons_zero, List.getElem?_cons_succ, Option.some.injEq, V.ref.injEq, V.int.injEq, V.str.injEq, V.bl.injEq, V.ty.injEq, exists_eq_left', exists_eq_left, exists_and_left, List.cons.injEq, and_true, true_and, sc_ii, sc_ss, sc_bb, sc_ni, sc_in, sc_is, sc_si, sc_nn, decide_true, decide_false, reduceCtorEq, Bool.false_eq_true, if_true, if_false, ite_true, ite_false, exists_const, eq_self, false_and, and_false, or_false, false_or, exists_false, Evl.rLenS, rSum, wipe, tYes, exists_eq, exists_eq', rIxL, rIxT, rIxS, exists_and_right, gt_iff_lt, not_true_eq_false, not_false_eq_true, Bool.not_true, Bool.not_false, decide_eq_true_eq, Nat.reduceSub, Nat.reduceAdd, List.append_assoc, tChain, tDIn, tDNotIn, sDDel, tAug, ipI, rInt1_int, rInt1_bl]
      refine ⟨_, sq_l (k13 _ _ not0 hbl12), .int bs[i], atI_nat (by rw [List.getElem?_map, List.getElem?_eq_getElem lb]; rfl), rfl, ?_⟩
      split
      · refine ⟨_, sq_l (k13 _ _ not0 hkl), v, atI_nat ev, ?_⟩
        have tp : Tp H13 (upd H13 D (.lst (vs ++ [v]))) := (Tp.refl _).putL hD
        refine ⟨vs, hD, by rw [hgs.len]; exact smallL (by omega), vs ++ [v], upd_same, gs ++ [e], ((hgs.snoc (hv.tp k13.tps)).mono fun _ _ z => z.tp tp), fun g hg => ?_, by rw [List.length_append]; exact Nat.succ_le_succ lg, k13.wr nD⟩
        rcases List.mem_append.mp hg with hg | hg
        · exact hin g hg
        · rw [List.mem_singleton.mp hg]
          exact List.mem_of_getElem? ee
      · exact ⟨vs, hD, gs, hgs, hin, Nat.le_succ_of_le lg, k13⟩
    rintro D H13 nD ⟨vs, gs, hD, hgs, hin, lg, k13⟩
    refine mkR2 (K := K) (RC := RC) L (k13 _ _ not0 hta12) (.inl (sq_l hD)) hgs hin (by omega) fun o8 H14 no8 hR8 k14 => ?_
    have k1214 := k13.trans k14
    have hta14 := k1214 _ _ not0 hta12
    refine seq_step ?_
    try simp (maxSteps := 1000000) only [tIfS, tTest, tOp, tUn, tCB, tCons, tNil, tVar, tC, rI0, rI, rU, rEq, rNe, tRet, tRetN, tAsg, gName, gSub, tBM, tBM0, tNext, tB, tNot, tAnd, tOr, tIf, tCall, tDrop, tBreak, tCont, L2.start, tDGet, sDPut, tTup, tLst, tDNewK, tRevL, rCat, rAppend, rPop, rSetL, tAndV, tOrV, tNotV, tSl, tPart, tNoPart, tM1, gTup, gCons, gNil, cxK, cxnK, List.map_cons, List.map_nil, List.length_cons, List.length_nil, List.replicate, List.cons_append, List.nil_append, List.append_nil, List.set_cons_zero, List.set_cons_succ, List.getElem?_cons_zero, List.getElem?_cons_succ, Option.some.injEq, V.ref.injEq, V.int.injEq, V.str.injEq, V.bl.injEq, V.ty.injEq, exists_eq_left', exists_eq_left, exists_and_left, List.cons.injEq, and_true, true_and, sc_ii, sc_ss, sc_bb, sc_ni, sc_in, sc_is, sc_si, sc_nn, decide_true, decide_false, reduceCtorEq, Bool.false_eq_true, if_true, if_false, ite_true, ite_false, exists_const, eq_self, false_and, and_false, or_false, false_or, exists_false, Evl.rLenS, rSum, wipe, tYes, exists_eq, exists_eq', rIxL, rIxT, rIxS, exists_and_right, gt_iff_lt, not_true_eq_false, not_false_eq_true, Bool.not_true, Bool.not_false, decide_eq_true_eq, Nat.reduceSub, Nat.reduceAdd, List.append_assoc, tChain, tDIn, tDNotIn, sDDel, tAug, ipI, rInt1_int, rInt1_bl, tSta]
    refine ⟨ta, zs, rfl, L, hta14, fun o10 H15 no10 hR10 k15 => ?_⟩
    refine seq_step ?_
    try simp (maxSteps := 1000000) only [tIfS, tTest, tOp, tUn, tCB, tCons, tNil, tVar, tC, rI0, rI, rU, rEq, rNe, tRet, tRetN, tAsg, gName, gSub, tBM, tBM0, tNext, tB, tNot, tAnd, tOr, tIf, tCall, tDrop, tBreak, tCont, L2.start, tDGet, sDPut, tTup, tLst, tDNewK, tRevL, rCat, rAppend, rPop, rSetL, tAndV, tOrV, tNotV, tSl, tPart, tNoPart, tM1, gTup, gCons, gNil, cxK, cxnK, List.map_cons, List.map_nil, List.length_cons, List.length_nil, List.replicate, List.cons_append, List.nil_append, List.append_nil, List.set_cons_zero, List.set_cons_succ, List.getElem?_cons_zero, List.getElem?_cons_succ, Option.some.injEq, V.ref.injEq, V.int.injEq, V.str.injEq, V.bl.injEq, V.ty.injEq, exists_eq_left', exists_eq_left, exists_and_left, List.cons.injEq, and_true, true_and, sc_ii, sc_ss, sc_bb, sc_ni, sc_in, sc_is, sc_si, sc_nn, decide_true, decide_false, reduceCtorEq, Bool.false_eq_true, if_true, if_false, ite_true, ite_false, exists_const, eq_self, false_and, and_false, or_false, false_or, exists_false, Evl.rLenS, rSum, wipe, tYes, exists_eq, exists_eq', rIxL, rIxT, rIxS, exists_and_right, gt_iff_lt, not_true_eq_false, not_false_eq_true, Bool.not_true, Bool.not_false, decide_eq_true_eq, Nat.reduceSub, Nat.reduceAdd, List.append_assoc, tChain, tDIn, tDNotIn, sDDel, tAug, ipI, rInt1_int, rInt1_bl, tSta]
    refine ⟨ta, zs, rfl, L, k15 _ _ not0 hta14, fun o11 H16 no11 hR11 k16 => ?_⟩
    refine seq_step ?_
    try simp (maxSteps := 1000000) only [tIfS, tTest, tOp, tUn, tCB, tCons, tNil, tVar, tC, rI0, rI, rU, rEq, rNe, tRet, tRetN, tAsg, gName, gSub, tBM, tBM0, tNext, tB, tNot, tAnd, tOr, tIf, tCall, tDrop, tBreak, tCont, L2.start, tDGet, sDPut, tTup, tLst, tDNewK, tRevL, rCat, rAppend, rPop, rSetL, tAndV, tOrV, tNotV, tSl, tPart, tNoPart, tM1, gTup, gCons, gNil, cxK, cxnK, List.map_cons, List.map_nil, List.length_cons, List.length_nil, List.replicate, List.cons_append, List.nil_append, List.append_nil, List.set_cons_zero, List.set_cons_succ, List.getElem?_cons_zero, List.getElem?_cons_succ, Option.some.injEq, V.ref.injEq, V.int.injEq, V.str.injEq, V.bl.injEq, V.ty.injEq, exists_eq_left', exists_eq_left, exists_and_left, List.cons.injEq, and_true, true_and, sc_ii, sc_ss, sc_bb, sc_ni, sc_in, sc_is, sc_si, sc_nn, decide_true, decide_false, reduceCtorEq, Bool.false_eq_true, if_true, if_false, ite_true, ite_false, exists_const, eq_self, false_and, and_false, or_false, false_or, exists_false, Evl.rLenS, rSum, wipe, tYes, exists_eq, exists_eq', rIxL, rIxT, rIxS, exists_and_right, gt_iff_lt, not_true_eq_false, not_false_eq_true, Bool.not_true, Bool.not_false, decide_eq_true_eq, Nat.reduceSub, Nat.reduceAdd, List.append_assoc, tChain, tDIn, tDNotIn, sDDel, tAug, ipI, rInt1_int, rInt1_bl, tSta]
    refine ⟨ta, zs, rfl, L, (k15.trans k16) _ _ not0 hta14, fun o12 H17 no12 hR12 k17 => ?_⟩
    have k1217 := ((k1214.trans k15).trans k16).trans k17
    have hta17 := k1217 _ _ not0 hta12
    have hol17 := k1217 _ _ not0 hol12
    have hsl17 := k1217 _ _ not0 hsl12
    have hE17 : EnAt H17 kl zs (ens zs.length) := ⟨us, k1217 _ _ not0 hkl, hus.mono fun _ _ z => z.tp k1217.tps, List.Sublist.refl _⟩
    have hR8' := hR8.kp ((k15.trans k16).trans k17)
    have hR10' := hR10.kp (k16.trans k17)
    have hR11' := hR11.kp k17
    obtain ⟨WR0, fR, eR⟩ := rng_ok0 zs.length (by omega) n1
    have WR := okW_of WR0
    have fG := gat_ok0 zs.length (by omega) n1
    clear hR8 hR10 hR11
    refine seq_step ?_
    try simp (maxSteps := 1000000) only [tIfS, tTest, tOp, tUn, tCB, tCons, tNil, tVar, tC, rI0, rI, rU, rEq, rNe, tRet, tRetN, tAsg, gName, gSub, tBM, tBM0, tNext, tB, tNot, tAnd, tOr, tIf, tCall, tDrop, tBreak, tCont, L2.start, tDGet, sDPut, tTup, tLst, tDNewK, tRevL, rCat, rAppend, rPop, rSetL, tAndV, tOrV, tNotV, tSl, tPart, tNoPart, tM1, gTup, gCons, gNil, cxK, cxnK, List.map_cons, List.map_nil, List.length_cons, List.length_nil, List.replicate, List.cons_append, List.nil_append, List.append_nil, List.set_cons_zero, List.set_cons_succ, List.getElem?_cons_zero, List.getElem?_cons_succ, Option.some.injEq, V.ref.injEq, V.int.injEq, V.str.injEq, V.bl.injEq, V.ty.injEq, exists_eq_left', exists_eq_left, exists_and_left, List.cons.injEq, and_true, true_and, sc_ii, sc_ss, sc_bb, sc_ni, sc_in, sc_is, sc_si, sc_nn, decide_true, decide_false, reduceCtorEq, Bool.false_eq_true, if_true, if_false, ite_true, ite_false, exists_const, eq_self, false_and, and_false, or_false, false_or, exists_false, Evl.rLenS, rSum, wipe, tYes, exists_eq, exists_eq', rIxL, rIxT, rIxS, exists_and_right, gt_iff_lt, not_true_eq_false, not_false_eq_true, Bool.not_true, Bool.not_false, decide_eq_true_eq, Nat.reduceSub, Nat.reduceAdd, List.append_assoc, tChain, tDIn, tDNotIn, sDDel, tAug, ipI, rInt1_int, rInt1_bl]
    refine ⟨o10, ta, kl, zs, _, rfl, hR10', .inr (sq_t hta17), hE17, fun H18 k18 => ⟨true, rfl, ?_⟩⟩
    rw [if_neg (by decide)]
    refine ⟨_, .inr (sq_t (k18 _ _ not0 hta17)), fun lz nlz => ?_⟩
    have k1z := k18.trans (Kp.new nlz (o := .lst (zs.map V.str)))
    refine ⟨ta, lz, zs, List.range zs.length, rfl, L, .inr (sq_t (k1z _ _ not0 hta17)), WR, by rw [zs_rng]; exact upd_same, fun l19 H19 nl19 hE19 k19 => ?_⟩
    rw [eR] at hE19
    have k119 := k1z.trans k19
    refine ⟨o11, ta, l19, zs, _, rfl, hR11'.kp k119, .inr (sq_t (k119 _ _ not0 hta17)), hE19, fun H20 k20 => ⟨true, rfl, ?_⟩⟩
    rw [if_neg (by decide)]
    have k120 := k119.trans k20
    clear hE19 k119 k1z k18 k19 k20 nl19 nlz
    refine seq_step ?_
    try simp (maxSteps := 1000000) only [tIfS, tTest, tOp, tUn, tCB, tCons, tNil, tVar, tC, rI0, rI, rU, rEq, rNe, tRet, tRetN, tAsg, gName, gSub, tBM, tBM0, tNext, tB, tNot, tAnd, tOr, tIf, tCall, tDrop, tBreak, tCont, L2.start, tDGet, sDPut, tTup, tLst, tDNewK, tRevL, rCat, rAppend, rPop, rSetL, tAndV, tOrV, tNotV, tSl, tPart, tNoPart, tM1, gTup, gCons, gNil, cxK, cxnK, List.map_cons, List.map_nil, List.length_cons, List.length_nil, List.replicate, List.cons_append, List.nil_append, List.append_nil, List.set_cons_zero, List.set_cons_succ, List.getElem?_cons_zero, List.getElem?_cons_succ, Option.some.injEq, V.ref.injEq, V.int.injEq, V.str.injEq, V.bl.injEq, V.ty.injEq, exists_eq_left', exists_eq_left, exists_and_left, List.cons.injEq, and_true, true_and, sc_ii, sc_ss, sc_bb, sc_ni, sc_in, sc_is, sc_si, sc_nn, decide_true, decide_false, reduceCtorEq, Bool.false_eq_true, if_true, if_false, ite_true, ite_false, exists_const, eq_self, false_and, and_false, or_false, false_or, exists_false, Evl.rLenS, rSum, wipe, tYes, exists_eq, exists_eq', rIxL, rIxT, rIxS, exists_and_right, gt_iff_lt, not_true_eq_false, not_false_eq_true, Bool.not_true, Bool.not_false, decide_eq_true_eq, Nat.reduceSub, Nat.reduceAdd, List.append_assoc, tChain, tDIn, tDNotIn, sDDel, tAug, ipI, rInt1_int, rInt1_bl]
    have i0 : atI (zs.map V.str) 0 = some (.str (nmL zs 0)) := (show atI _ ((0 : Nat) : Int) = _ from atI_nat (by rw [List.getElem?_map, nm_at (by omega)]; rfl))
    refine ⟨_, sq_t (k120 _ _ not0 hta17), _, i0, ?_⟩
    refine ⟨ta, zs, 0, rfl, L, .inr (sq_t (k120 _ _ not0 hta17)), n1, fun l21 H21 nl21 hE21 k21 => ?_⟩
    have k121 := k120.trans k21
    refine ⟨o12, ta, l21, zs, _, rfl, hR12.kp k121, .inr (sq_t (k121 _ _ not0 hta17)), hE21, fun H22 k22 => ⟨true, rfl, ?_⟩⟩
    rw [if_neg (by decide)]
    have k122 := k121.trans k22
    clear hE21 nl21 k21 k22 k121 k120
    refine seq_step ?_
    try simp (maxSteps := 1000000) only [tIfS, tTest, tOp, tUn, tCB, tCons, tNil, tVar, tC, rI0, rI, rU, rEq, rNe, tRet, tRetN, tAsg, gName, gSub, tBM, tBM0, tNext, tB, tNot, tAnd, tOr, tIf, tCall, tDrop, tBreak, tCont, L2.start, tDGet, sDPut, tTup, tLst, tDNewK, tRevL, rCat, rAppend, rPop, rSetL, tAndV, tOrV, tNotV, tSl, tPart, tNoPart, tM1, gTup, gCons, gNil, cxK, cxnK, List.map_cons, List.map_nil, List.length_cons, List.length_nil, List.replicate, List.cons_append, List.nil_append, List.append_nil, List.set_cons_zero, List.set_cons_succ, List.getElem?_cons_zero, List.getElem?_cons_succ, Option.some.injEq, V.ref.injEq, V.int.injEq, V.str.injEq, V.bl.injEq, V.ty.injEq, exists_eq_left', exists_eq_left, exists_and_left, List.cons.injEq, and_true, true_and, sc_ii, sc_ss, sc_bb, sc_ni, sc_in, sc_is, sc_si, sc_nn, decide_true, decide_false, reduceCtorEq, Bool.false_eq_true, if_true, if_false, ite_true, ite_false, exists_const, eq_self, false_and, and_false, or_false, false_or, exists_false, Evl.rLenS, rSum, wipe, tYes, exists_eq, exists_eq', rIxL, rIxT, rIxS, exists_and_right, gt_iff_lt, not_true_eq_false, not_false_eq_true, Bool.not_true, Bool.not_false, decide_eq_true_eq, Nat.reduceSub, Nat.reduceAdd, List.append_assoc, tChain, tDIn, tDNotIn, sDDel, tAug, ipI, rInt1_int, rInt1_bl]
    have NR : NoRing zs.length (risR zs.length) := free_of n1 (by omega) List.filter_sublist fR
    have NG : NoRing zs.length (gatR zs.length) := free_of n1 (by omega) List.filter_sublist (fG 0 n1)
    refine ⟨o11, o8, zs, _, _, rfl, hR11'.kp k122, hR8'.kp k122, NR, fun H23 k23 => ⟨true, rfl, ?_⟩⟩
    rw [if_neg (by decide)]
    refine ⟨o12, o8, zs, _, _, rfl, hR12.kp (k122.trans k23), hR8'.kp (k122.trans k23), NG, fun H24 k24 => ⟨true, rfl, ?_⟩⟩
    rw [if_neg (by decide)]
    have k124 := (k122.trans k23).trans k24
    clear k122 k23 k24
    refine seq_cut (fun σ H' => ∃ (c9 : Option V) (ot : Addr) (es : List En), σ = [some (.ref a), some (.ref nl), some (.ref sl), some (.ref ta), some (.int (tn : Nat)), some (.ref ol), some (.ref bl), some (.ref kl), some (.ref o8), c9, some (.ref o10), some (.ref o11), some (.ref o12), some (.ref ot), none] ∧ EnAt H' ot zs es ∧ NoRing zs.length es ∧ Kp [] H24 H') (fun Tn hT => ?_) ?_
    · try simp (maxSteps := 1000000) only [tSeq, tIfS, tTest, tOp, tUn, tCB, tCons, tNil, tVar, tC, rI0, rI, rU, rEq, rNe, tRet, tRetN, tAsg, gName, gSub, tBM, tBM0, tNext, tB, tNot, tAnd, tOr, tIf, tCall, tDrop, tBreak, tCont, L2.start, tDGet, sDPut, tTup, tLst, tDNewK, tRevL, rCat, rAppend, rPop, rSetL, tAndV, tOrV, tNotV, tSl, tPart, tNoPart, tM1, gTup, gCons, gNil, cxK, cxnK, List.map_cons, List.map_nil, List.length_cons, List.length_nil, List.replicate, List.cons_append, List.nil_append, List.append_nil, List.set_cons_zero, List.set_cons_succ, List.getElem?_cons_zero, List.getElem?_cons_succ, Option.some.injEq, V.ref.injEq, V.int.injEq, V.str.injEq, V.bl.injEq, V.ty.injEq, exists_eq_left', exists_eq_left, exists_and_left, List.cons.injEq, and_true, true_and, sc_ii, sc_ss, sc_bb, sc_ni, sc_in, sc_is, sc_si, sc_nn, decide_true, decide_false, reduceCtorEq, Bool.false_eq_true, if_true, if_false, ite_true, ite_false, exists_const, eq_self, false_and, and_false, or_false, false_or, exists_false, Evl.rLenS, rSum, wipe, tYes, exists_eq, exists_eq', rIxL, rIxT, rIxS, exists_and_right, gt_iff_lt, not_true_eq_false, not_false_eq_true, Bool.not_true, Bool.not_false, decide_eq_true_eq, Nat.reduceSub, Nat.reduceAdd, List.append_assoc, tChain, tDIn, tDNotIn, sDDel, tAug, ipI, rInt1_int, rInt1_bl]
      refine ⟨_, sq_l (k124 _ _ not0 hsl17), _, o2, .inl ⟨_, rfl, _, rfl, by decide, ?_⟩⟩
      split
      · refine ⟨ta, ol, zs, ws, rfl, L, .inr (sq_t (k124 _ _ not0 hta17)), W, k124 _ _ not0 hol17, fun l25 H25 nl25 hE25 k25 => ?_⟩
        exact hT _ _ ⟨_, l25, _, rfl, hE25, free_of n1 (by omega) List.filter_sublist fW, k25⟩
      · have lw : 0 < ws.length := by omega
        have w0 : atI ((nmH zs ws).map V.str) 0 = some (.str (nmL zs ws[0])) := (show atI _ ((0 : Nat) : Int) = _ from atI_nat (by unfold nmH; rw [List.getElem?_map, List.getElem?_map, List.getElem?_eq_getElem lw]; rfl))
        have w1 := W.lt _ (List.getElem_mem lw)
        refine ⟨_, sq_l (k124 _ _ not0 hol17), _, w0, ?_⟩
        refine ⟨ta, zs, ws[0], rfl, L, .inr (sq_t (k124 _ _ not0 hta17)), w1, fun l25 H25 nl25 hE25 k25 => ?_⟩
        exact hT _ _ ⟨_, l25, _, rfl, hE25, free_of n1 (by omega) List.filter_sublist (fG _ w1), k25⟩
    rintro σ H25 ⟨c9, ot, eo, rfl, hE25, NO, k25⟩
    have k125 := k124.trans k25
    have hta25 := k125 _ _ not0 hta17
    have hol25 := k125 _ _ not0 hol17
    have hR10b := hR10'.kp k125
    have hR11b := hR11'.kp k125
    have hR12b := hR12.kp k125
    clear hR10' hR11' hR12 hR8' hE17 hsl17 hta17 hol17
    refine seq_step ?_
    try simp (maxSteps := 1000000) only [tIfS, tTest, tOp, tUn, tCB, tCons, tNil, tVar, tC, rI0, rI, rU, rEq, rNe, tRet, tRetN, tAsg, gName, gSub, tBM, tBM0, tNext, tB, tNot, tAnd, tOr, tIf, tCall, tDrop, tBreak, tCont, L2.start, tDGet, sDPut, tTup, tLst, tDNewK, tRevL, rCat, rAppend, rPop, rSetL, tAndV, tOrV, tNotV, tSl, tPart, tNoPart, tM1, gTup, gCons, gNil, cxK, cxnK, List.map_cons, List.map_nil, List.length_cons, List.length_nil, List.replicate, List.cons_append, List.nil_append, List.append_nil, List.set_cons_zero, List.set_cons_succ, List.getElem?_cons_zero, List.getElem?_cons_succ, Option.some.injEq, V.ref.injEq, V.int.injEq, V.str.injEq, V.bl.injEq, V.ty.injEq, exists_eq_left', exists_eq_left, exists_and_left, List.cons.injEq, and_true, true_and, sc_ii, sc_ss, sc_bb, sc_ni, sc_in, sc_is, sc_si, sc_nn, decide_true, decide_false, reduceCtorEq, Bool.false_eq_true, if_true, if_false, ite_true, ite_false, exists_const, eq_self, false_and, and_false, or_false, false_or, exists_false, Evl.rLenS, rSum, wipe, tYes, exists_eq, exists_eq', rIxL, rIxT, rIxS, exists_and_right, gt_iff_lt, not_true_eq_false, not_false_eq_true, Bool.not_true, Bool.not_false, decide_eq_true_eq, Nat.reduceSub, Nat.reduceAdd, List.append_assoc, tChain, tDIn, tDNotIn, sDDel, tAug, ipI, rInt1_int, rInt1_bl, tMake]
    obtain ⟨ue, hea, hue, heo⟩ := id hE25
    refine mkR2 (K := K) (RC := RC) L hta25 (.inl (sq_l hea)) hue (fun g hg => heo.subset hg) (by have := heo.length_le; omega) fun o26 H26 no26 hR26 k26 => ?_
    rw [sub_filter heo E.nd] at hR26
    refine ⟨o26, zs, eo, rfl, hR26, fun m hs r H' p m2 mn sk _ _ hp _ _ _ => ?_, fun _ H27 k27 => ?_⟩
    · have := NO m m2 mn hs (pth_rch hp .zero)
      rw [sk] at this
      cases this
    dsimp only
    rw [if_neg (by simp)]
    have k227 := k26.trans k27
    have hta27 := k227 _ _ not0 hta25
    have hol27 := k227 _ _ not0 hol25
    have hR10c := hR10b.kp k227
    have hR11c := hR11b.kp k227
    have hR12c := hR12b.kp k227
    clear hR10b hR11b hR12b
    generalize nmH zs ws = ys at hol27 LY
    have ny := LY.pos
    have ny3 := LY.le
    obtain ⟨YR0, _, eY⟩ := rng_ok0 ys.length (by omega) ny
    have YR := okW_of YR0
    refine seq_step ?_
    try simp (maxSteps := 1000000) only [tIfS, tTest, tOp, tUn, tCB, tCons, tNil, tVar, tC, rI0, rI, rU, rEq, rNe, tRet, tRetN, tAsg, gName, gSub, tBM, tBM0, tNext, tB, tNot, tAnd, tOr, tIf, tCall, tDrop, tBreak, tCont, L2.start, tDGet, sDPut, tTup, tLst, tDNewK, tRevL, rCat, rAppend, rPop, rSetL, tAndV, tOrV, tNotV, tSl, tPart, tNoPart, tM1, gTup, gCons, gNil, cxK, cxnK, List.map_cons, List.map_nil, List.length_cons, List.length_nil, List.replicate, List.cons_append, List.nil_append, List.append_nil, List.set_cons_zero, List.set_cons_succ, List.getElem?_cons_zero, List.getElem?_cons_succ, Option.some.injEq, V.ref.injEq, V.int.injEq, V.str.injEq, V.bl.injEq, V.ty.injEq, exists_eq_left', exists_eq_left, exists_and_left, List.cons.injEq, and_true, true_and, sc_ii, sc_ss, sc_bb, sc_ni, sc_in, sc_is, sc_si, sc_nn, decide_true, decide_false, reduceCtorEq, Bool.false_eq_true, if_true, if_false, ite_true, ite_false, exists_const, eq_self, false_and, and_false, or_false, false_or, exists_false, Evl.rLenS, rSum, wipe, tYes, exists_eq, exists_eq', rIxL, rIxT, rIxS, exists_and_right, gt_iff_lt, not_true_eq_false, not_false_eq_true, Bool.not_true, Bool.not_false, decide_eq_true_eq, Nat.reduceSub, Nat.reduceAdd, List.append_assoc, tChain, tDIn, tDNotIn, sDDel, tAug, ipI, rInt1_int, rInt1_bl, tSta]
    refine ⟨_, .inl ⟨sq_l hol27, fun t1 nt1 => ?_⟩⟩
    have kt1 := (Kp.new nt1 : Kp [] H27 (upd H27 t1 (.tup (ys.map V.str))))
    refine ⟨t1, ys, rfl, LY, upd_same, fun o28 H28 no28 hR28 k28 => ?_⟩
    have k728 := kt1.trans k28
    have hol28 := k728 _ _ not0 hol27
    refine ⟨ol, ol, ys, List.range ys.length, rfl, LY, .inl (sq_l hol28), YR, by rw [zs_rng]; exact hol28, fun l29 H29 nl29 hE29 k29 => ?_⟩
    rw [eY] at hE29
    refine ⟨o28, ol, l29, ys, _, rfl, hR28.kp k29, .inl (sq_l (k29 _ _ not0 hol28)), hE29, fun H30 k30 => ⟨true, rfl, ?_⟩⟩
    rw [if_neg (by decide)]
    have k730 := (k728.trans k29).trans k30
    clear hR28 hE29 k28 k29 k30 kt1 nt1 k728 hol28
    refine seq_step ?_
    try simp (maxSteps := 1000000) only [tIfS, tTest, tOp, tUn, tCB, tCons, tNil, tVar, tC, rI0, rI, rU, rEq, rNe, tRet, tRetN, tAsg, gName, gSub, tBM, tBM0, tNext, tB, tNot, tAnd, tOr, tIf, tCall, tDrop, tBreak, tCont, L2.start, tDGet, sDPut, tTup, tLst, tDNewK, tRevL, rCat, rAppend, rPop, rSetL, tAndV, tOrV, tNotV, tSl, tPart, tNoPart, tM1, gTup, gCons, gNil, cxK, cxnK, List.map_cons, List.map_nil, List.length_cons, List.length_nil, List.replicate, List.cons_append, List.nil_append, List.append_nil, List.set_cons_zero, List.set_cons_succ, List.getElem?_cons_zero, List.getElem?_cons_succ, Option.some.injEq, V.ref.injEq, V.int.injEq, V.str.injEq, V.bl.injEq, V.ty.injEq, exists_eq_left', exists_eq_left, exists_and_left, List.cons.injEq, and_true, true_and, sc_ii, sc_ss, sc_bb, sc_ni, sc_in, sc_is, sc_si, sc_nn, decide_true, decide_false, reduceCtorEq, Bool.false_eq_true, if_true, if_false, ite_true, ite_false, exists_const, eq_self, false_and, and_false, or_false, false_or, exists_false, Evl.rLenS, rSum, wipe, tYes, exists_eq, exists_eq', rIxL, rIxT, rIxS, exists_and_right, gt_iff_lt, not_true_eq_false, not_false_eq_true, Bool.not_true, Bool.not_false, decide_eq_true_eq, Nat.reduceSub, Nat.reduceAdd, List.append_assoc, tChain, tDIn, tDNotIn, sDDel, tAug, ipI, rInt1_int, rInt1_bl, tSta]
    have hol30 := k730 _ _ not0 hol27
    refine ⟨_, .inl ⟨sq_l hol30, fun t2 nt2 => ?_⟩⟩
    have kt2 := (Kp.new nt2 : Kp [] H30 (upd H30 t2 (.tup (ys.map V.str))))
    refine ⟨t2, ys, rfl, LY, upd_same, fun o31 H31 no31 hR31 k31 => ?_⟩
    have k031 := kt2.trans k31
    have hol31 := k031 _ _ not0 hol30
    have y0 : atI (ys.map V.str) 0 = some (.str (nmL ys 0)) := (show atI _ ((0 : Nat) : Int) = _ from atI_nat (by rw [List.getElem?_map, nm_at (by omega)]; rfl))
    refine ⟨_, sq_l hol31, _, y0, ?_⟩
    refine ⟨ol, ys, 0, rfl, LY, .inl (sq_l hol31), ny, fun l32 H32 nl32 hE32 k32 => ?_⟩
    refine ⟨o31, ol, l32, ys, _, rfl, hR31.kp k32, .inl (sq_l (k32 _ _ not0 hol31)), hE32, fun H33 k33 => ⟨true, rfl, ?_⟩⟩
    rw [if_neg (by decide)]
    have k733 := ((k730.trans k031).trans k32).trans k33
    clear hR31 hE32 k31 k32 k33 kt2 nt2 k031 hol31 k730 hol30
    refine seq_step ?_
    try simp (maxSteps := 1000000) only [tIfS, tTest, tOp, tUn, tCB, tCons, tNil, tVar, tC, rI0, rI, rU, rEq, rNe, tRet, tRetN, tAsg, gName, gSub, tBM, tBM0, tNext, tB, tNot, tAnd, tOr, tIf, tCall, tDrop, tBreak, tCont, L2.start, tDGet, sDPut, tTup, tLst, tDNewK, tRevL, rCat, rAppend, rPop, rSetL, tAndV, tOrV, tNotV, tSl, tPart, tNoPart, tM1, gTup, gCons, gNil, cxK, cxnK, List.map_cons, List.map_nil, List.length_cons, List.length_nil, List.replicate, List.cons_append, List.nil_append, List.append_nil, List.set_cons_zero, List.set_cons_succ, List.getElem?_cons_zero, List.getElem?_cons_succ, Option.some.injEq, V.ref.injEq, V.int.injEq, V.str.injEq, V.bl.injEq, V.ty.injEq, exists_eq_left', exists_eq_left, exists_and_left, List.cons.injEq, and_true, true_and, sc_ii, sc_ss, sc_bb, sc_ni, sc_in, sc_is, sc_si, sc_nn, decide_true, decide_false, reduceCtorEq, Bool.false_eq_true, if_true, if_false, ite_true, ite_false, exists_const, eq_self, false_and, and_false, or_false, false_or, exists_false, Evl.rLenS, rSum, wipe, tYes, exists_eq, exists_eq', rIxL, rIxT, rIxS, exists_and_right, gt_iff_lt, not_true_eq_false, not_false_eq_true, Bool.not_true, Bool.not_false, decide_eq_true_eq, Nat.reduceSub, Nat.reduceAdd, List.append_assoc, tChain, tDIn, tDNotIn, sDDel, tAug, ipI, rInt1_int, rInt1_bl, tSta]
    have hol33 := k733 _ _ not0 hol27
    refine ⟨_, .inl ⟨sq_l hol33, fun t3 nt3 => ?_⟩⟩
    have kt3 := (Kp.new nt3 : Kp [] H33 (upd H33 t3 (.tup (ys.map V.str))))
    refine ⟨t3, ys, rfl, LY, upd_same, fun o34 H34 no34 hR34 k34 => ?_⟩
    have k334 := kt3.trans k34
    have hol34 := k334 _ _ not0 hol33
    refine ⟨ol, ys, rfl, LY, .inl (sq_l hol34), fun l35 us35 H35 nl35 hl35 hus35 k35 => ?_⟩
    refine ⟨o34, ol, l35, ys, _, rfl, hR34.kp k35, .inl (sq_l (k35 _ _ not0 hol34)), ⟨us35, hl35, hus35, List.Sublist.refl _⟩, fun H36 k36 => ⟨true, rfl, ?_⟩⟩
    rw [if_neg (by decide)]
    have k736 := ((k733.trans k334).trans k35).trans k36
    clear hR34 hl35 hus35 k34 k35 k36 kt3 nt3 k334 hol34 k733 hol33
    have hta36 := k736 _ _ not0 hta27
    have hR10d := hR10c.kp k736
    have hR11d := hR11c.kp k736
    have hR12d := hR12c.kp k736
    clear hR10c hR11c hR12c
    refine seq_step ?_
    try simp (maxSteps := 1000000) only [tIfS, tTest, tOp, tUn, tCB, tCons, tNil, tVar, tC, rI0, rI, rU, rEq, rNe, tRet, tRetN, tAsg, gName, gSub, tBM, tBM0, tNext, tB, tNot, tAnd, tOr, tIf, tCall, tDrop, tBreak, tCont, L2.start, tDGet, sDPut, tTup, tLst, tDNewK, tRevL, rCat, rAppend, rPop, rSetL, tAndV, tOrV, tNotV, tSl, tPart, tNoPart, tM1, gTup, gCons, gNil, cxK, cxnK, List.map_cons, List.map_nil, List.length_cons, List.length_nil, List.replicate, List.cons_append, List.nil_append, List.append_nil, List.set_cons_zero, List.set_cons_succ, List.getElem?_cons_zero, List.getElem?_cons_succ, Option.some.injEq, V.ref.injEq, V.int.injEq, V.str.injEq, V.bl.injEq, V.ty.injEq, exists_eq_left', exists_eq_left, exists_and_left, List.cons.injEq, and_true, true_and, sc_ii, sc_ss, sc_bb, sc_ni, sc_in, sc_is, sc_si, sc_nn, decide_true, decide_false, reduceCtorEq, Bool.false_eq_true, if_true, if_false, ite_true, ite_false, exists_const, eq_self, false_and, and_false, or_false, false_or, exists_false, Evl.rLenS, rSum, wipe, tYes, exists_eq, exists_eq', rIxL, rIxT, rIxS, exists_and_right, gt_iff_lt, not_true_eq_false, not_false_eq_true, Bool.not_true, Bool.not_false, decide_eq_true_eq, Nat.reduceSub, Nat.reduceAdd, List.append_assoc, tChain, tDIn, tDNotIn, sDDel, tAug, ipI, rInt1_int, rInt1_bl]
    refine ⟨o10, zs, ens zs.length, rfl, hR10d, fun m hs r H37 p m2 mn sk fr nr hp pl hRg k37 => ?_, fun N H37 k37 => ?_⟩
    · have h23 : zs.length = 2 ∨ zs.length = 3 := by omega
      have em : m = 2 := by
        rcases Nat.lt_or_ge 2 m with h | h
        · exact absurd (fr 2 (Nat.le_refl _) h) (every2 h23)
        · omega
      subst em
      dsimp only
      refine seq_step ?_
      try simp (maxSteps := 1000000) only [tIfS, tTest, tOp, tUn, tCB, tCons, tNil, tVar, tC, rI0, rI, rU, rEq, rNe, tRet, tRetN, tAsg, gName, gSub, tBM, tBM0, tNext, tB, tNot, tAnd, tOr, tIf, tCall, tDrop, tBreak, tCont, L2.start, tDGet, sDPut, tTup, tLst, tDNewK, tRevL, rCat, rAppend, rPop, rSetL, tAndV, tOrV, tNotV, tSl, tPart, tNoPart, tM1, gTup, gCons, gNil, cxK, cxnK, List.map_cons, List.map_nil, List.length_cons, List.length_nil, List.replicate, List.cons_append, List.nil_append, List.append_nil, List.set_cons_zero, List.set_cons_succ, List.getElem?_cons_zero, List.getElem?_cons_succ, Option.some.injEq, V.ref.injEq, V.int.injEq, V.str.injEq, V.bl.injEq, V.ty.injEq, exists_eq_left', exists_eq_left, exists_and_left, List.cons.injEq, and_true, true_and, sc_ii, sc_ss, sc_bb, sc_ni, sc_in, sc_is, sc_si, sc_nn, decide_true, decide_false, reduceCtorEq, Bool.false_eq_true, if_true, if_false, ite_true, ite_false, exists_const, eq_self, false_and, and_false, or_false, false_or, exists_false, Evl.rLenS, rSum, wipe, tYes, exists_eq, exists_eq', rIxL, rIxT, rIxS, exists_and_right, gt_iff_lt, not_true_eq_false, not_false_eq_true, Bool.not_true, Bool.not_false, decide_eq_true_eq, Nat.reduceSub, Nat.reduceAdd, List.append_assoc, tChain, tDIn, tDNotIn, sDDel, tAug, ipI, rInt1_int, rInt1_bl]
      refine ⟨_, .inr (sq_t (k37 _ _ not0 hta36)), ?_⟩
      rw [List.length_map]
      rw [if_neg (by omega)]
      refine seq_step ?_
      try simp (maxSteps := 1000000) only [tIfS, tTest, tOp, tUn, tCB, tCons, tNil, tVar, tC, rI0, rI, rU, rEq, rNe, tRet, tRetN, tAsg, gName, gSub, tBM, tBM0, tNext, tB, tNot, tAnd, tOr, tIf, tCall, tDrop, tBreak, tCont, L2.start, tDGet, sDPut, tTup, tLst, tDNewK, tRevL, rCat, rAppend, rPop, rSetL, tAndV, tOrV, tNotV, tSl, tPart, tNoPart, tM1, gTup, gCons, gNil, cxK, cxnK, List.map_cons, List.map_nil, List.length_cons, List.length_nil, List.replicate, List.cons_append, List.nil_append, List.append_nil, List.set_cons_zero, List.set_cons_succ, List.getElem?_cons_zero, List.getElem?_cons_succ, Option.some.injEq, V.ref.injEq, V.int.injEq, V.str.injEq, V.bl.injEq, V.ty.injEq, exists_eq_left', exists_eq_left, exists_and_left, List.cons.injEq, and_true, true_and, sc_ii, sc_ss, sc_bb, sc_ni, sc_in, sc_is, sc_si, sc_nn, decide_true, decide_false, reduceCtorEq, Bool.false_eq_true, if_true, if_false, ite_true, ite_false, exists_const, eq_self, false_and, and_false, or_false, false_or, exists_false, Evl.rLenS, rSum, wipe, tYes, exists_eq, exists_eq', rIxL, rIxT, rIxS, exists_and_right, gt_iff_lt, not_true_eq_false, not_false_eq_true, Bool.not_true, Bool.not_false, decide_eq_true_eq, Nat.reduceSub, Nat.reduceAdd, List.append_assoc, tChain, tDIn, tDNotIn, sDDel, tAug, ipI, rInt1_int, rInt1_bl, tProp]
      obtain ⟨dxr, _, _, _, _, _, hrr, _⟩ := id hRg
      have lhs : hs.length = 2 := by rw [pth_len hp]; rfl
      have lws : (wantsJ (ens zs.length) hs).length = 2 := by
        unfold stuckJ at sk
        rw [of_decide_eq_true sk, lhs]
      refine isi_own IC hrr ⟨true, rfl, ?_⟩
      rw [if_neg (by decide)]
      refine ⟨⟨dxr, _, hrr⟩, r, zs, _, _, _, rfl, hRg, by simp, fun l38 us38 H38 nl38 hl38 hus38 k38 => ?_⟩
      refine ⟨l38, rfl, _, .inl (sq_l hl38), ?_⟩
      rw [hus38.len, List.length_map, List.length_range]
      rw [if_neg (by decide)]
      refine ⟨⟨dxr, _, k38 _ _ not0 hrr⟩, r, zs, _, _, _, rfl, hRg.kp k38, fun l39 nl39 => ?_⟩
      refine ⟨l39, rfl, _, .inl (sq_l upd_same), ?_⟩
      rw [List.length_map, nmH_len, lws]
      rw [if_neg (by decide)]
      have k739 := (k37.trans k38).trans (Kp.new nl39 (o := .lst ((nmH zs (wantsJ (ens zs.length) hs)).map V.str)))
      generalize upd H38 l39 (.lst ((nmH zs (wantsJ (ens zs.length) hs)).map V.str)) = H39 at k739 ⊢
      refine seq_step ?_
      try simp (maxSteps := 1000000) only [tIfS, tTest, tOp, tUn, tCB, tCons, tNil, tVar, tC, rI0, rI, rU, rEq, rNe, tRet, tRetN, tAsg, gName, gSub, tBM, tBM0, tNext, tB, tNot, tAnd, tOr, tIf, tCall, tDrop, tBreak, tCont, L2.start, tDGet, sDPut, tTup, tLst, tDNewK, tRevL, rCat, rAppend, rPop, rSetL, tAndV, tOrV, tNotV, tSl, tPart, tNoPart, tM1, gTup, gCons, gNil, cxK, cxnK, List.map_cons, List.map_nil, List.length_cons, List.length_nil, List.replicate, List.cons_append, List.nil_append, List.append_nil, List.set_cons_zero, List.set_cons_succ, List.getElem?_cons_zero, List.getElem?_cons_succ, Option.some.injEq, V.ref.injEq, V.int.injEq, V.str.injEq, V.bl.injEq, V.ty.injEq, exists_eq_left', exists_eq_left, exists_and_left, List.cons.injEq, and_true, true_and, sc_ii, sc_ss, sc_bb, sc_ni, sc_in, sc_is, sc_si, sc_nn, decide_true, decide_false, reduceCtorEq, Bool.false_eq_true, if_true, if_false, ite_true, ite_false, exists_const, eq_self, false_and, and_false, or_false, false_or, exists_false, Evl.rLenS, rSum, wipe, tYes, exists_eq, exists_eq', rIxL, rIxT, rIxS, exists_and_right, gt_iff_lt, not_true_eq_false, not_false_eq_true, Bool.not_true, Bool.not_false, decide_eq_true_eq, Nat.reduceSub, Nat.reduceAdd, List.append_assoc, tChain, tDIn, tDNotIn, sDDel, tAug, ipI, rInt1_int, rInt1_bl]
      have hR10e := hR10d.kp k739
      have hR11e := hR11d.kp k739
      have hR12e := hR12d.kp k739
      refine ⟨o11, o10, zs, zs, _, _, rfl, hR11e, hR10e, fun _ H40 k40 => ?_, fun z => absurd rfl z⟩
      rw [show wiR zs.length (risR zs.length) (ens zs.length) = true from wi_sub fun e he => List.filter_sublist.subset he]
      refine ⟨true, rfl, ?_⟩
      rw [if_neg (by decide)]
      refine ⟨o12, o10, zs, zs, _, _, rfl, hR12e.kp k40, hR10e.kp k40, fun _ H41 k41 => ?_, fun z => absurd rfl z⟩
      rw [show wiR zs.length (gatR zs.length) (ens zs.length) = true from wi_sub fun e he => List.filter_sublist.subset he]
      refine ⟨true, rfl, ?_⟩
      rw [if_neg (by decide)]
      have k041 := k40.trans k41
      refine ⟨o10, o12, zs, zs, _, _, rfl, hR10e.kp k041, hR12e.kp k041, fun _ H42 k42 => ?_, fun z => absurd rfl z⟩
      rw [wi_false h23 nin_gat]
      refine ⟨false, rfl, ?_⟩
      rw [if_pos rfl]
      have k042 := k041.trans k42
      refine ⟨o10, o11, zs, zs, _, _, rfl, hR10e.kp k042, hR11e.kp k042, fun _ H43 k43 => ?_, fun z => absurd rfl z⟩
      rw [wi_false h23 nin_ris]
      exact ⟨false, rfl, q _⟩
    · refine seq_step ?_
      try simp (maxSteps := 1000000) only [tIfS, tTest, tOp, tUn, tCB, tCons, tNil, tVar, tC, rI0, rI, rU, rEq, rNe, tRet, tRetN, tAsg, gName, gSub, tBM, tBM0, tNext, tB, tNot, tAnd, tOr, tIf, tCall, tDrop, tBreak, tCont, L2.start, tDGet, sDPut, tTup, tLst, tDNewK, tRevL, rCat, rAppend, rPop, rSetL, tAndV, tOrV, tNotV, tSl, tPart, tNoPart, tM1, gTup, gCons, gNil, cxK, cxnK, List.map_cons, List.map_nil, List.length_cons, List.length_nil, List.replicate, List.cons_append, List.nil_append, List.append_nil, List.set_cons_zero, List.set_cons_succ, List.getElem?_cons_zero, List.getElem?_cons_succ, Option.some.injEq, V.ref.injEq, V.int.injEq, V.str.injEq, V.bl.injEq, V.ty.injEq, exists_eq_left', exists_eq_left, exists_and_left, List.cons.injEq, and_true, true_and, sc_ii, sc_ss, sc_bb, sc_ni, sc_in, sc_is, sc_si, sc_nn, decide_true, decide_false, reduceCtorEq, Bool.false_eq_true, if_true, if_false, ite_true, ite_false, exists_const, eq_self, false_and, and_false, or_false, false_or, exists_false, Evl.rLenS, rSum, wipe, tYes, exists_eq, exists_eq', rIxL, rIxT, rIxS, exists_and_right, gt_iff_lt, not_true_eq_false, not_false_eq_true, Bool.not_true, Bool.not_false, decide_eq_true_eq, Nat.reduceSub, Nat.reduceAdd, List.append_assoc, tChain, tDIn, tDNotIn, sDDel, tAug, ipI, rInt1_int, rInt1_bl]
      refine ⟨_, .inr (sq_t (k37 _ _ not0 hta36)), ?_⟩
      rw [List.length_map]
      by_cases e1 : zs.length = 1
      · rw [if_pos (by omega)]
        exact q _
      · exact absurd (N 2 (Nat.le_refl _) (by omega)) (every2 (by omega))
end
end My

set_option Elab.async false
set_option linter.all false
set_option maxRecDepth 100000
set_option maxHeartbeats 8000000
namespace My
open PySem L2 NdefX StX
theorem exm_sub {K : PySem.W.Frag} {S D : Addr} {b : Bool} (h1 : PySem.W.subIn K (.ref D) (.type "BaseException") = some true) (h2 : PySem.W.isClsIn K D = true) (h3 : PySem.W.typeIn K (.ref D) = some (.type "type"))
    (h4 : PySem.W.subIn K (.ref S) (.ref D) = some b) : PySem.W.exmOne K (.ref S) (.ref D) = some b := by
  have i2 : (PySem.W.clsIn K D).isSome = true := h2
  unfold PySem.W.exmOne
  simp [PySem.W.kitCls, h1, i2, h3, h4]
theorem kit_self {K : PySem.W.Frag} {S : Addr} : PySem.W.kitOne K (.ref S) (.ref S) = some true := by
  unfold PySem.W.kitOne
  rw [if_pos (beq_self_eq_true _)]
theorem kit_sub {K : PySem.W.Frag} {S D : Addr} {b : Bool} (h1 : ((Value.ref S) == (Value.ref D)) = false) (h2 : PySem.W.isClsIn K D = true) (h3 : PySem.W.typeIn K (.ref D) = some (.type "type")) (h4 : PySem.W.subIn K (.ref S) (.ref D) = some b) : PySem.W.kitOne K (.ref S) (.ref D) = some b := by
  have i2 : (PySem.W.clsIn K D).isSome = true := h2
  unfold PySem.W.kitOne
  rw [h1]
  simp [PySem.W.kitCls, i2, h3, h4]
theorem kit_ty {K : PySem.W.Frag} {S : Addr} {T : String} {b : Bool} (h1 : PySem.W.kitMeta T = true) (h4 : PySem.W.subIn K (.ref S) (.type T) = some b) : PySem.W.kitOne K (.ref S) (.type T) = some b := by
  unfold PySem.W.kitOne
  rw [if_neg (by rw [show ((Value.ref S) == (Value.type T)) = false from beq_eq_false_iff_ne.mpr (fun z => nomatch z)]; exact Bool.false_ne_true)]
  simp [PySem.W.kitCls, h1, h4]
theorem all_mk {l : PySem.W.OpenLaw} {w : World} {K : PySem.W.Frag} {h : Heap} {mg : Str → Option Value} {fa : Addr} (X : K.In h) (G : h.Ns mainGlobals mg) (hfa : mg "law" = some (.ref fa))
    {f0 : Addr}
    {od0 an0 : Option Addr}
    {sl0 : Array (Option Value)}
    {oc0 kV0 dc0 pm0 cd0 ct0 : Value}
    {f1 : Addr}
    {od1 an1 : Option Addr}
    {sl1 : Array (Option Value)}
    {oc1 kV1 dc1 pm1 cd1 ct1 : Value}
    {f2 : Addr}
    {od2 an2 : Option Addr}
    {sl2 : Array (Option Value)}
    {oc2 kV2 dc2 pm2 cd2 ct2 : Value}
    {f3 : Addr}
    {od3 an3 : Option Addr}
    {sl3 : Array (Option Value)}
    {oc3 kV3 dc3 pm3 cd3 ct3 : Value}
    {f4 : Addr}
    {od4 an4 : Option Addr}
    {sl4 : Array (Option Value)}
    {oc4 kV4 dc4 pm4 cd4 ct4 : Value}
    {f5 : Addr}
    {od5 an5 : Option Addr}
    {sl5 : Array (Option Value)}
    {oc5 kV5 dc5 pm5 cd5 ct5 : Value}
    {f6 : Addr}
    {od6 an6 : Option Addr}
    {sl6 : Array (Option Value)}
    {oc6 kV6 dc6 pm6 cd6 ct6 : Value}
    {f7 : Addr}
    {od7 an7 : Option Addr}
    {sl7 : Array (Option Value)}
    {oc7 kV7 dc7 pm7 cd7 ct7 : Value}
    {f8 : Addr}
    {od8 an8 : Option Addr}
    {sl8 : Array (Option Value)}
    {oc8 kV8 dc8 pm8 cd8 ct8 : Value}
    {f9 : Addr}
    {od9 an9 : Option Addr}
    {sl9 : Array (Option Value)}
    {oc9 kV9 dc9 pm9 cd9 ct9 : Value}
    {f10 : Addr}
    {od10 an10 : Option Addr}
    {sl10 : Array (Option Value)}
    {oc10 kV10 dc10 pm10 cd10 ct10 : Value}
    {f11 : Addr}
    {od11 an11 : Option Addr}
    {sl11 : Array (Option Value)}
    {oc11 kV11 dc11 pm11 cd11 ct11 : Value}
    {f12 : Addr}
    {od12 an12 : Option Addr}
    {sl12 : Array (Option Value)}
    {oc12 kV12 dc12 pm12 cd12 ct12 : Value}
    {f13 : Addr}
    {od13 an13 : Option Addr}
    {sl13 : Array (Option Value)}
    {oc13 kV13 dc13 pm13 cd13 ct13 : Value}
    {f14 : Addr}
    {od14 an14 : Option Addr}
    {sl14 : Array (Option Value)}
    {oc14 kV14 dc14 pm14 cd14 ct14 : Value}
    {f15 : Addr}
    {od15 an15 : Option Addr}
    {sl15 : Array (Option Value)}
    {oc15 kV15 dc15 pm15 cd15 ct15 : Value}
    {f16 : Addr}
    {od16 an16 : Option Addr}
    {sl16 : Array (Option Value)}
    {oc16 kV16 dc16 pm16 cd16 ct16 : Value}
    {f17 : Addr}
    {od17 an17 : Option Addr}
    {sl17 : Array (Option Value)}
    {oc17 kV17 dc17 pm17 cd17 ct17 : Value}
    {f18 : Addr}
    {od18 an18 : Option Addr}
    {sl18 : Array (Option Value)}
    {oc18 kV18 dc18 pm18 cd18 ct18 : Value}
    {f19 : Addr}
    {od19 an19 : Option Addr}
    {sl19 : Array (Option Value)}
    {oc19 kV19 dc19 pm19 cd19 ct19 : Value}
    {f20 : Addr}
    {od20 an20 : Option Addr}
    {sl20 : Array (Option Value)}
    {oc20 kV20 dc20 pm20 cd20 ct20 : Value}
    {sL : Str}
    {tL : Tok}
    {tX3 : Tok}
    {RC : Addr}
    {CC : Addr}
    {RG : Addr}
    {OL feO ccO cdaO NO : Addr}
    {nmO qnO fileO : Str}
    {bsO bmO sbO : List Value}
    {snO : List Str}
    {abO : Bool}
    {coO : Option Bool}
    {ddO odO anO cdO ceO : Option Addr}
    {m0O m1O m2O m3O m5O : Option Value}
    {vsO : Array Value}
    {tfO : Tok}
    {slO csO czO : Array (Option Value)}
    {ocO kVO dcO pmO ctO clO cxO : Value}
    {TD de : Addr}
    {dtD dtE : Option Addr}
    {itsD itsE : Array Value}
    {ntD ntE : Nat}
    {sqD sqE : Array (Option Value)}
    {tcD : Value}
    {fTI : Addr}
    {odTI anTI : Option Addr}
    {slTI : Array (Option Value)}
    {ocTI kVTI dcTI pmTI cdTI ctTI : Value}
    {fTN : Addr}
    {odTN anTN : Option Addr}
    {slTN : Array (Option Value)}
    {ocTN kVTN dcTN pmTN cdTN ctTN : Value}
    {fTT : Addr}
    {odTT anTT : Option Addr}
    {slTT : Array (Option Value)}
    {ocTT kVTT dcTT pmTT cdTT ctTT : Value}
    {fTG : Addr}
    {odTG anTG : Option Addr}
    {slTG : Array (Option Value)}
    {ocTG kVTG dcTG pmTG cdTG ctTG : Value}
    {fTC : Addr}
    {odTC anTC : Option Addr}
    {slTC : Array (Option Value)}
    {ocTC kVTC dcTC pmTC cdTC ctTC : Value}
    {fTA : Addr}
    {odTA anTA : Option Addr}
    {slTA : Array (Option Value)}
    {ocTA kVTA dcTA pmTA cdTA ctTA : Value}
    {fTK : Addr}
    {odTK anTK : Option Addr}
    {slTK : Array (Option Value)}
    {ocTK kVTK dcTK pmTK cdTK ctTK : Value}
    {fSE pSE : Addr}
    {restSE : List Value}
    {odSE anSE : Option Addr}
    {slSE : Array (Option Value)}
    {ocSE kVSE dcSE pmSE cdSE ctSE : Value}
    {fSR pSR : Addr}
    {restSR : List Value}
    {odSR anSR : Option Addr}
    {slSR : Array (Option Value)}
    {ocSR kVSR dcSR pmSR cdSR ctSR : Value}
    {fSG pSG : Addr}
    {restSG : List Value}
    {odSG anSG : Option Addr}
    {slSG : Array (Option Value)}
    {ocSG kVSG dcSG pmSG cdSG ctSG : Value}
    {fUI : Addr}
    {odUI anUI : Option Addr}
    {slUI : Array (Option Value)}
    {ocUI kVUI dcUI pmUI cdUI ctUI : Value}
    {fUL : Addr}
    {odUL anUL : Option Addr}
    {slUL : Array (Option Value)}
    {ocUL kVUL dcUL pmUL cdUL ctUL : Value}
    {fUW : Addr}
    {odUW anUW : Option Addr}
    {slUW : Array (Option Value)}
    {ocUW kVUW dcUW pmUW cdUW ctUW : Value}
    {fUR : Addr}
    {odUR anUR : Option Addr}
    {slUR : Array (Option Value)}
    {ocUR kVUR dcUR pmUR cdUR ctUR : Value}
    {fVI : Addr}
    {odVI anVI : Option Addr}
    {slVI : Array (Option Value)}
    {ocVI kVVI dcVI pmVI cdVI ctVI : Value}
    {fVP prVP : Addr}
    {rsVP : List Value}
    {odVP anVP : Option Addr}
    {slVP : Array (Option Value)}
    {ocVP kVVP dcVP pmVP cdVP ctVP : Value}
    {fVW prVW : Addr}
    {rsVW : List Value}
    {odVW anVW : Option Addr}
    {slVW : Array (Option Value)}
    {ocVW kVVW dcVW pmVW cdVW ctVW : Value}
    (a0 : PySem.W.nsIn K mainGlobals "is_name" = some (some (.ref f0)))
    (l0 : K.lookup f0 = some ⟨oc0, od0, .func (PySem.W.fnOf "is_name" "is_name" (defArgs s_is_name) (defBody s_is_name) (defScope s_is_name) .none kV0 dc0 pm0 an0 cd0 ct0), sl0⟩)
    (c0 : PySem.W.codeIn K cd0 "is_name" = true)
    (k0 : PySem.W.keepIn K (.ref f0) = true)
    (a1 : PySem.W.nsIn K mainGlobals "all_held" = some (some (.ref f1)))
    (l1 : K.lookup f1 = some ⟨oc1, od1, .func (PySem.W.fnOf "all_held" "all_held" (defArgs s_all_held) (defBody s_all_held) (defScope s_all_held) .none kV1 dc1 pm1 an1 cd1 ct1), sl1⟩)
    (c1 : PySem.W.codeIn K cd1 "all_held" = true)
    (k1 : PySem.W.keepIn K (.ref f1) = true)
    (a2 : PySem.W.nsIn K mainGlobals "all_entries" = some (some (.ref f2)))
    (l2 : K.lookup f2 = some ⟨oc2, od2, .func (PySem.W.fnOf "all_entries" "all_entries" (defArgs s_all_entries) (defBody s_all_entries) (defScope s_all_entries) .none kV2 dc2 pm2 an2 cd2 ct2), sl2⟩)
    (c2 : PySem.W.codeIn K cd2 "all_entries" = true)
    (k2 : PySem.W.keepIn K (.ref f2) = true)
    (a3 : PySem.W.nsIn K mainGlobals "names_ahead" = some (some (.ref f3)))
    (l3 : K.lookup f3 = some ⟨oc3, od3, .func (PySem.W.fnOf "names_ahead" "names_ahead" (defArgs s_names_ahead) (defBody s_names_ahead) (defScope s_names_ahead) .none kV3 dc3 pm3 an3 cd3 ct3), sl3⟩)
    (c3 : PySem.W.codeIn K cd3 "names_ahead" = true)
    (k3 : PySem.W.keepIn K (.ref f3) = true)
    (a4 : PySem.W.nsIn K mainGlobals "names_behind" = some (some (.ref f4)))
    (l4 : K.lookup f4 = some ⟨oc4, od4, .func (PySem.W.fnOf "names_behind" "names_behind" (defArgs s_names_behind) (defBody s_names_behind) (defScope s_names_behind) .none kV4 dc4 pm4 an4 cd4 ct4), sl4⟩)
    (c4 : PySem.W.codeIn K cd4 "names_behind" = true)
    (k4 : PySem.W.keepIn K (.ref f4) = true)
    (a5 : PySem.W.nsIn K mainGlobals "check_same_locks" = some (some (.ref f5)))
    (l5 : K.lookup f5 = some ⟨oc5, od5, .func (PySem.W.fnOf "check_same_locks" "check_same_locks" (defArgs s_check_same_locks) (defBody s_check_same_locks) (defScope s_check_same_locks) .none kV5 dc5 pm5 an5 cd5 ct5), sl5⟩)
    (c5 : PySem.W.codeIn K cd5 "check_same_locks" = true)
    (k5 : PySem.W.keepIn K (.ref f5) = true)
    (a6 : PySem.W.nsIn K mainGlobals "held_after" = some (some (.ref f6)))
    (l6 : K.lookup f6 = some ⟨oc6, od6, .func (PySem.W.fnOf "held_after" "held_after" (defArgs s_held_after) (defBody s_held_after) (defScope s_held_after) .none kV6 dc6 pm6 an6 cd6 ct6), sl6⟩)
    (c6 : PySem.W.codeIn K cd6 "held_after" = true)
    (k6 : PySem.W.keepIn K (.ref f6) = true)
    (a7 : PySem.W.nsIn K mainGlobals "reachable" = some (some (.ref f7)))
    (l7 : K.lookup f7 = some ⟨oc7, od7, .func (PySem.W.fnOf "reachable" "reachable" (defArgs s_reachable) (defBody s_reachable) (defScope s_reachable) .none kV7 dc7 pm7 an7 cd7 ct7), sl7⟩)
    (c7 : PySem.W.codeIn K cd7 "reachable" = true)
    (k7 : PySem.W.keepIn K (.ref f7) = true)
    (a8 : PySem.W.nsIn K mainGlobals "within" = some (some (.ref f8)))
    (l8 : K.lookup f8 = some ⟨oc8, od8, .func (PySem.W.fnOf "within" "within" (defArgs s_within) (defBody s_within) (defScope s_within) .none kV8 dc8 pm8 an8 cd8 ct8), sl8⟩)
    (c8 : PySem.W.codeIn K cd8 "within" = true)
    (k8 : PySem.W.keepIn K (.ref f8) = true)
    (a9 : PySem.W.nsIn K mainGlobals "ring_of" = some (some (.ref f9)))
    (l9 : K.lookup f9 = some ⟨oc9, od9, .func (PySem.W.fnOf "ring_of" "ring_of" (defArgs s_ring_of) (defBody s_ring_of) (defScope s_ring_of) .none kV9 dc9 pm9 an9 cd9 ct9), sl9⟩)
    (c9 : PySem.W.codeIn K cd9 "ring_of" = true)
    (k9 : PySem.W.keepIn K (.ref f9) = true)
    (a10 : PySem.W.nsIn K mainGlobals "_law_cell" = some (some (.ref f10)))
    (l10 : K.lookup f10 = some ⟨oc10, od10, .func (PySem.W.fnOf "_law_cell" "_law_cell" (defArgs s_law_cell) (defBody s_law_cell) (defScope s_law_cell) .none kV10 dc10 pm10 an10 cd10 ct10), sl10⟩)
    (c10 : PySem.W.codeIn K cd10 "_law_cell" = true)
    (k10 : PySem.W.keepIn K (.ref f10) = true)
    (a11 : PySem.W.nsIn K mainGlobals "_law_mixed" = some (some (.ref f11)))
    (l11 : K.lookup f11 = some ⟨oc11, od11, .func (PySem.W.fnOf "_law_mixed" "_law_mixed" (defArgs s_law_mixed) (defBody s_law_mixed) (defScope s_law_mixed) .none kV11 dc11 pm11 an11 cd11 ct11), sl11⟩)
    (c11 : PySem.W.codeIn K cd11 "_law_mixed" = true)
    (k11 : PySem.W.keepIn K (.ref f11) = true)
    (a12 : PySem.W.nsIn K mainGlobals "_law_draws" = some (some (.ref f12)))
    (l12 : K.lookup f12 = some ⟨oc12, od12, .func (PySem.W.fnOf "_law_draws" "_law_draws" (defArgs s_law_draws) (defBody s_law_draws) (defScope s_law_draws) .none kV12 dc12 pm12 an12 cd12 ct12), sl12⟩)
    (c12 : PySem.W.codeIn K cd12 "_law_draws" = true)
    (k12 : PySem.W.keepIn K (.ref f12) = true)
    (a13 : PySem.W.nsIn K mainGlobals "_law_names" = some (some (.ref f13)))
    (l13 : K.lookup f13 = some ⟨oc13, od13, .func (PySem.W.fnOf "_law_names" "_law_names" (defArgs s_law_names) (defBody s_law_names) (defScope s_law_names) .none kV13 dc13 pm13 an13 cd13 ct13), sl13⟩)
    (c13 : PySem.W.codeIn K cd13 "_law_names" = true)
    (k13 : PySem.W.keepIn K (.ref f13) = true)
    (a14 : PySem.W.nsIn K mainGlobals "_law_helds" = some (some (.ref f14)))
    (l14 : K.lookup f14 = some ⟨oc14, od14, .func (PySem.W.fnOf "_law_helds" "_law_helds" (defArgs s_law_helds) (defBody s_law_helds) (defScope s_law_helds) .none kV14 dc14 pm14 an14 cd14 ct14), sl14⟩)
    (c14 : PySem.W.codeIn K cd14 "_law_helds" = true)
    (k14 : PySem.W.keepIn K (.ref f14) = true)
    (a15 : PySem.W.nsIn K mainGlobals "_law_entries" = some (some (.ref f15)))
    (l15 : K.lookup f15 = some ⟨oc15, od15, .func (PySem.W.fnOf "_law_entries" "_law_entries" (defArgs s_law_entries) (defBody s_law_entries) (defScope s_law_entries) .none kV15 dc15 pm15 an15 cd15 ct15), sl15⟩)
    (c15 : PySem.W.codeIn K cd15 "_law_entries" = true)
    (k15 : PySem.W.keepIn K (.ref f15) = true)
    (a16 : PySem.W.nsIn K mainGlobals "_law_is_rule" = some (some (.ref f16)))
    (l16 : K.lookup f16 = some ⟨oc16, od16, .func (PySem.W.fnOf "_law_is_rule" "_law_is_rule" (defArgs s_law_is_rule) (defBody s_law_is_rule) (defScope s_law_is_rule) .none kV16 dc16 pm16 an16 cd16 ct16), sl16⟩)
    (c16 : PySem.W.codeIn K cd16 "_law_is_rule" = true)
    (k16 : PySem.W.keepIn K (.ref f16) = true)
    (a17 : PySem.W.nsIn K mainGlobals "_law_rising" = some (some (.ref f17)))
    (l17 : K.lookup f17 = some ⟨oc17, od17, .func (PySem.W.fnOf "_law_rising" "_law_rising" (defArgs s_law_rising) (defBody s_law_rising) (defScope s_law_rising) .none kV17 dc17 pm17 an17 cd17 ct17), sl17⟩)
    (c17 : PySem.W.codeIn K cd17 "_law_rising" = true)
    (k17 : PySem.W.keepIn K (.ref f17) = true)
    (a18 : PySem.W.nsIn K mainGlobals "_law_gate" = some (some (.ref f18)))
    (l18 : K.lookup f18 = some ⟨oc18, od18, .func (PySem.W.fnOf "_law_gate" "_law_gate" (defArgs s_law_gate) (defBody s_law_gate) (defScope s_law_gate) .none kV18 dc18 pm18 an18 cd18 ct18), sl18⟩)
    (c18 : PySem.W.codeIn K cd18 "_law_gate" = true)
    (k18 : PySem.W.keepIn K (.ref f18) = true)
    (a19 : PySem.W.nsIn K mainGlobals "_law_free_of_rings" = some (some (.ref f19)))
    (l19 : K.lookup f19 = some ⟨oc19, od19, .func (PySem.W.fnOf "_law_free_of_rings" "_law_free_of_rings" (defArgs s_law_free_of_rings) (defBody s_law_free_of_rings) (defScope s_law_free_of_rings) .none kV19 dc19 pm19 an19 cd19 ct19), sl19⟩)
    (c19 : PySem.W.codeIn K cd19 "_law_free_of_rings" = true)
    (k19 : PySem.W.keepIn K (.ref f19) = true)
    (a20 : PySem.W.nsIn K mainGlobals "law" = some (some (.ref f20)))
    (l20 : K.lookup f20 = some ⟨oc20, od20, .func (PySem.W.fnOf "law" "law" (defArgs s_law) (defBody s_law) (defScope s_law) .none kV20 dc20 pm20 an20 cd20 ct20), sl20⟩)
    (c20 : PySem.W.codeIn K cd20 "law" = true)
    (k20 : PySem.W.keepIn K (.ref f20) = true)
    (z_isinstance : PySem.W.nsIn K mainGlobals "isinstance" = some none)
    (z_str : PySem.W.nsIn K mainGlobals "str" = some none)
    (z_tuple : PySem.W.nsIn K mainGlobals "tuple" = some none)
    (z_list : PySem.W.nsIn K mainGlobals "list" = some none)
    (z_len : PySem.W.nsIn K mainGlobals "len" = some none)
    (z_all : PySem.W.nsIn K mainGlobals "all" = some none)
    (z_iter : PySem.W.nsIn K mainGlobals "iter" = some none)
    (z_enumerate : PySem.W.nsIn K mainGlobals "enumerate" = some none)
    (z_int : PySem.W.nsIn K mainGlobals "int" = some none)
    (z_range : PySem.W.nsIn K mainGlobals "range" = some none)
    (z_sorted : PySem.W.nsIn K mainGlobals "sorted" = some none)
    (z_super : PySem.W.nsIn K mainGlobals "super" = some none)
    (gL : PySem.W.nsIn K mainGlobals "LETTERS" = some (some (.str sL tL)))
    (eL : sL = lets)
    (gX3 : PySem.W.nsIn K mainGlobals "MOST_LOCKS" = some (some (.int 3 tX3)))
    (aT : PySem.W.nsIn K mainGlobals "Rule" = some (some (.ref RC)))
    (p1T : PySem.W.plainGet K RC Str.empty = true)
    (p2T : PySem.W.hasDictIn K RC = true)
    (p3T : PySem.W.plainOver K RC = true)
    (p4T : PySem.W.findIn K (.ref RC) "__setattr__" = some (some (.builtin "object.__setattr__")))
    (n0T : PySem.W.findIn K (.ref RC) "_locks" = some none)
    (n1T : PySem.W.findIn K (.ref RC) "_entries" = some none)
    (p9T : PySem.W.keepIn K (.ref RC) = true)
    (aU : PySem.W.nsIn K mainGlobals "Circle" = some (some (.ref CC)))
    (p1U : PySem.W.plainGet K CC Str.empty = true)
    (p2U : PySem.W.hasDictIn K CC = true)
    (p3U : PySem.W.plainOver K CC = true)
    (p4U : PySem.W.findIn K (.ref CC) "__setattr__" = some (some (.builtin "object.__setattr__")))
    (n0U : PySem.W.findIn K (.ref CC) "_rule" = some none)
    (n1U : PySem.W.findIn K (.ref CC) "_locks" = some none)
    (n2U : PySem.W.findIn K (.ref CC) "_found" = some none)
    (n3U : PySem.W.findIn K (.ref CC) "_back" = some none)
    (n4U : PySem.W.findIn K (.ref CC) "stuck_at" = some none)
    (p9U : PySem.W.keepIn K (.ref CC) = true)
    (aV : PySem.W.nsIn K mainGlobals "Ring" = some (some (.ref RG)))
    (p1V : PySem.W.plainGet K RG Str.empty = true)
    (p2V : PySem.W.hasDictIn K RG = true)
    (p3V : PySem.W.plainOver K RG = true)
    (p4V : PySem.W.findIn K (.ref RG) "__setattr__" = some (some (.builtin "object.__setattr__")))
    (n0V : PySem.W.findIn K (.ref RG) "_locks" = some none)
    (n1V : PySem.W.findIn K (.ref RG) "_programs" = some none)
    (n2V : PySem.W.findIn K (.ref RG) "_wants" = some none)
    (n3V : PySem.W.findIn K (.ref RG) "_order" = some none)
    (p9V : PySem.W.keepIn K (.ref RG) = true)
    (p5T : PySem.W.makesIn K RC = true)
    (p5U : PySem.W.makesIn K CC = true)
    (p5V : PySem.W.makesIn K RG = true)
    (eCR : ((Value.ref CC) == (Value.ref RC)) = false)
    (haT : PySem.W.findIn K (.ref RC) "__class__" = some (some (.builtin "object.__class__")))
    (hmT : PySem.W.mroIn K RC (.type "object") = some true)
    (haV : PySem.W.findIn K (.ref RG) "__class__" = some (some (.builtin "object.__class__")))
    (hmV : PySem.W.mroIn K RG (.type "object") = some true)
    (aO : PySem.W.nsIn K mainGlobals "OtherLocks" = some (some (.ref OL)))
    (xO : K.lookup OL = some (excClassObj nmO qnO OL NO bsO bmO true snO sbO abO coO ddO m0O m1O m2O m3O m5O "ValueError.__new__"))
    (rO : PySem.HandSPX.refsVE bmO = true)
    (b1O : PySem.W.findIn K (.ref OL) "__setattr__" = some (some (.builtin "object.__setattr__")))
    (q1O : PySem.W.subIn K (.ref OL) (.type "BaseException") = some true)
    (q2O : PySem.W.isClsIn K OL = true)
    (q3O : PySem.W.typeIn K (.ref OL) = some (.type "type"))
    (b4O : PySem.W.keepIn K (.ref OL) = true)
    (b5O : PySem.W.findIn K (.ref OL) "__init__" = some (some (.ref feO)))
    (b6O : PySem.W.typeIn K (.ref feO) = some (.type "function"))
    (lO : K.lookup feO = some ⟨ocO, odO, .func (PySem.W.fnX "__init__" "OtherLocks.__init__" (defArgs s_OtherLocks_init) (defBody s_OtherLocks_init) (defScope s_OtherLocks_init) [("__class__", ccO)] .none kVO dcO pmO anO (.ref cdaO) ctO), slO⟩)
    (cO : PySem.W.codeIn K (.ref cdaO) "OtherLocks.__init__" = true)
    (kO : PySem.W.keepIn K (.ref feO) = true)
    (eO : K.lookup ccO = some ⟨clO, cdO, .cell (some (.ref OL)), csO⟩)
    (b7O : PySem.W.ks_superIn K OL OL "__init__" = some (some (.builtin "ValueError.__init__")))
    (b8O : PySem.W.subIn K (.ref OL) (.type "ValueError") = some true)
    (b9 : PySem.W.nsIn K cStatics "thirdparty.any" = some none)
    (b14 : (l.prog.main.scope.names.lookup ("super" : Str)).isSome = false)
    (b31 : PySem.W.kitMeta "ValueError" = true)
    (p12 : PySem.W.specialIn K (.builtin "object.__class__") "__get__" = some (some (.builtin "getset_descriptor.__get__")))
    (p13 : PySem.W.takesIn K (.builtin "object.__class__") = some true)
    (b10O : PySem.W.mroIn K OL (.ref OL) = some true)
    (b11O : K.lookup cdaO = some ⟨cxO, ceO, .fields vsO, czO⟩)
    (b12O : vsO[2]? = some (.str fileO tfO))
    (b13O : ((l.prog.main.file : Str) == fileO) = true)
    (b17O : PySem.W.findIn K (.ref OL) "__getattribute__" = some (some (.builtin "BaseException.__getattribute__")))
    (b18O : PySem.W.findIn K (.ref OL) "__getattr__" = some none)
    (b19O : PySem.W.hasDictIn K OL = true)
    (b25O : PySem.W.findIn K (.ref OL) "__class__" = some (some (.builtin "object.__class__")))
    (b26O : PySem.W.mroIn K OL (.type "object") = some true)
    (p6T : PySem.W.selfFirst K RC = true)
    (mTI : PySem.W.findIn K (.ref RC) "__init__" = some (some (.ref fTI)))
    (hTI : PySem.W.isFn K (.ref fTI) = true)
    (lTI : K.lookup fTI = some ⟨ocTI, odTI, .func (PySem.W.fnOf "__init__" "Rule.__init__" (defArgs s_Rule_init) (defBody s_Rule_init) (defScope s_Rule_init) (.ref TD) kVTI dcTI pmTI anTI cdTI ctTI), slTI⟩)
    (cTI : PySem.W.codeIn K cdTI "Rule.__init__" = true)
    (kTI : PySem.W.keepIn K (.ref fTI) = true)
    (mTN : PySem.W.findIn K (.ref RC) "__len__" = some (some (.ref fTN)))
    (hTN : PySem.W.isFn K (.ref fTN) = true)
    (lTN : K.lookup fTN = some ⟨ocTN, odTN, .func (PySem.W.fnOf "__len__" "Rule.__len__" (defArgs s_Rule_len) (defBody s_Rule_len) (defScope s_Rule_len) .none kVTN dcTN pmTN anTN cdTN ctTN), slTN⟩)
    (cTN : PySem.W.codeIn K cdTN "Rule.__len__" = true)
    (kTN : PySem.W.keepIn K (.ref fTN) = true)
    (mTT : PySem.W.findIn K (.ref RC) "__iter__" = some (some (.ref fTT)))
    (hTT : PySem.W.isFn K (.ref fTT) = true)
    (lTT : K.lookup fTT = some ⟨ocTT, odTT, .func (PySem.W.fnOf "__iter__" "Rule.__iter__" (defArgs s_Rule_iter) (defBody s_Rule_iter) (defScope s_Rule_iter) .none kVTT dcTT pmTT anTT cdTT ctTT), slTT⟩)
    (cTT : PySem.W.codeIn K cdTT "Rule.__iter__" = true)
    (kTT : PySem.W.keepIn K (.ref fTT) = true)
    (mTG : PySem.W.findIn K (.ref RC) "__getitem__" = some (some (.ref fTG)))
    (hTG : PySem.W.isFn K (.ref fTG) = true)
    (lTG : K.lookup fTG = some ⟨ocTG, odTG, .func (PySem.W.fnOf "__getitem__" "Rule.__getitem__" (defArgs s_Rule_getitem) (defBody s_Rule_getitem) (defScope s_Rule_getitem) .none kVTG dcTG pmTG anTG cdTG ctTG), slTG⟩)
    (cTG : PySem.W.codeIn K cdTG "Rule.__getitem__" = true)
    (kTG : PySem.W.keepIn K (.ref fTG) = true)
    (mTC : PySem.W.findIn K (.ref RC) "__contains__" = some (some (.ref fTC)))
    (hTC : PySem.W.isFn K (.ref fTC) = true)
    (lTC : K.lookup fTC = some ⟨ocTC, odTC, .func (PySem.W.fnOf "__contains__" "Rule.__contains__" (defArgs s_Rule_contains) (defBody s_Rule_contains) (defScope s_Rule_contains) .none kVTC dcTC pmTC anTC cdTC ctTC), slTC⟩)
    (cTC : PySem.W.codeIn K cdTC "Rule.__contains__" = true)
    (kTC : PySem.W.keepIn K (.ref fTC) = true)
    (mTA : PySem.W.findIn K (.ref RC) "__and__" = some (some (.ref fTA)))
    (hTA : PySem.W.isFn K (.ref fTA) = true)
    (lTA : K.lookup fTA = some ⟨ocTA, odTA, .func (PySem.W.fnOf "__and__" "Rule.__and__" (defArgs s_Rule_and) (defBody s_Rule_and) (defScope s_Rule_and) .none kVTA dcTA pmTA anTA cdTA ctTA), slTA⟩)
    (cTA : PySem.W.codeIn K cdTA "Rule.__and__" = true)
    (kTA : PySem.W.keepIn K (.ref fTA) = true)
    (mTK : PySem.W.findIn K (.ref RC) "locks" = some (some (.ref fTK)))
    (hTK : PySem.W.isFn K (.ref fTK) = true)
    (lTK : K.lookup fTK = some ⟨ocTK, odTK, .func (PySem.W.fnOf "locks" "Rule.locks" (defArgs s_Rule_locks) (defBody s_Rule_locks) (defScope s_Rule_locks) .none kVTK dcTK pmTK anTK cdTK ctTK), slTK⟩)
    (cTK : PySem.W.codeIn K cdTK "Rule.locks" = true)
    (kTK : PySem.W.keepIn K (.ref fTK) = true)
    (mS1 : PySem.W.readsIn K RC (.type "type") = true)
    (mS2 : PySem.W.specialIn K (.ref RC) "__getattribute__" = some (some (.builtin "type.__getattribute__")))
    (m3SE : PySem.W.findCls K (.ref RC) (.type "type") "every" = some (.get (.builtin "staticmethod.__get__") (.ref pSE) .none (.ref RC)))
    (m4SE : PySem.W.recIn K pSE "staticmethod" = some (.ref fSE :: restSE))
    (lSE : K.lookup fSE = some ⟨ocSE, odSE, .func (PySem.W.fnOf "every" "Rule.every" (defArgs s_Rule_every) (defBody s_Rule_every) (defScope s_Rule_every) .none kVSE dcSE pmSE anSE cdSE ctSE), slSE⟩)
    (cSE : PySem.W.codeIn K cdSE "Rule.every" = true)
    (kSE : PySem.W.keepIn K (.ref fSE) = true)
    (m3SR : PySem.W.findCls K (.ref RC) (.type "type") "rising" = some (.get (.builtin "staticmethod.__get__") (.ref pSR) .none (.ref RC)))
    (m4SR : PySem.W.recIn K pSR "staticmethod" = some (.ref fSR :: restSR))
    (lSR : K.lookup fSR = some ⟨ocSR, odSR, .func (PySem.W.fnOf "rising" "Rule.rising" (defArgs s_Rule_rising) (defBody s_Rule_rising) (defScope s_Rule_rising) .none kVSR dcSR pmSR anSR cdSR ctSR), slSR⟩)
    (cSR : PySem.W.codeIn K cdSR "Rule.rising" = true)
    (kSR : PySem.W.keepIn K (.ref fSR) = true)
    (m3SG : PySem.W.findCls K (.ref RC) (.type "type") "gate" = some (.get (.builtin "staticmethod.__get__") (.ref pSG) .none (.ref RC)))
    (m4SG : PySem.W.recIn K pSG "staticmethod" = some (.ref fSG :: restSG))
    (lSG : K.lookup fSG = some ⟨ocSG, odSG, .func (PySem.W.fnOf "gate" "Rule.gate" (defArgs s_Rule_gate) (defBody s_Rule_gate) (defScope s_Rule_gate) .none kVSG dcSG pmSG anSG cdSG ctSG), slSG⟩)
    (cSG : PySem.W.codeIn K cdSG "Rule.gate" = true)
    (kSG : PySem.W.keepIn K (.ref fSG) = true)
    (mUI : PySem.W.findIn K (.ref CC) "__init__" = some (some (.ref fUI)))
    (hUI : PySem.W.isFn K (.ref fUI) = true)
    (lUI : K.lookup fUI = some ⟨ocUI, odUI, .func (PySem.W.fnOf "__init__" "Circle.__init__" (defArgs s_Circle_init) (defBody s_Circle_init) (defScope s_Circle_init) .none kVUI dcUI pmUI anUI cdUI ctUI), slUI⟩)
    (cUI : PySem.W.codeIn K cdUI "Circle.__init__" = true)
    (kUI : PySem.W.keepIn K (.ref fUI) = true)
    (mUL : PySem.W.findIn K (.ref CC) "_look" = some (some (.ref fUL)))
    (hUL : PySem.W.isFn K (.ref fUL) = true)
    (lUL : K.lookup fUL = some ⟨ocUL, odUL, .func (PySem.W.fnOf "_look" "Circle._look" (defArgs s_Circle_look) (defBody s_Circle_look) (defScope s_Circle_look) .none kVUL dcUL pmUL anUL cdUL ctUL), slUL⟩)
    (cUL : PySem.W.codeIn K cdUL "Circle._look" = true)
    (kUL : PySem.W.keepIn K (.ref fUL) = true)
    (mUW : PySem.W.findIn K (.ref CC) "wants_at" = some (some (.ref fUW)))
    (hUW : PySem.W.isFn K (.ref fUW) = true)
    (lUW : K.lookup fUW = some ⟨ocUW, odUW, .func (PySem.W.fnOf "wants_at" "Circle.wants_at" (defArgs s_Circle_wants_at) (defBody s_Circle_wants_at) (defScope s_Circle_wants_at) .none kVUW dcUW pmUW anUW cdUW ctUW), slUW⟩)
    (cUW : PySem.W.codeIn K cdUW "Circle.wants_at" = true)
    (kUW : PySem.W.keepIn K (.ref fUW) = true)
    (mUR : PySem.W.findIn K (.ref CC) "ring" = some (some (.ref fUR)))
    (hUR : PySem.W.isFn K (.ref fUR) = true)
    (lUR : K.lookup fUR = some ⟨ocUR, odUR, .func (PySem.W.fnOf "ring" "Circle.ring" (defArgs s_Circle_ring) (defBody s_Circle_ring) (defScope s_Circle_ring) .none kVUR dcUR pmUR anUR cdUR ctUR), slUR⟩)
    (cUR : PySem.W.codeIn K cdUR "Circle.ring" = true)
    (kUR : PySem.W.keepIn K (.ref fUR) = true)
    (mVI : PySem.W.findIn K (.ref RG) "__init__" = some (some (.ref fVI)))
    (hVI : PySem.W.isFn K (.ref fVI) = true)
    (lVI : K.lookup fVI = some ⟨ocVI, odVI, .func (PySem.W.fnOf "__init__" "Ring.__init__" (defArgs s_Ring_init) (defBody s_Ring_init) (defScope s_Ring_init) .none kVVI dcVI pmVI anVI cdVI ctVI), slVI⟩)
    (cVI : PySem.W.codeIn K cdVI "Ring.__init__" = true)
    (kVI : PySem.W.keepIn K (.ref fVI) = true)
    (raVP : PySem.W.findIn K (.ref RG) "programs" = some (some (.ref prVP)))
    (rbVP : PySem.W.specialIn K (.ref prVP) "__get__" = some (some (.builtin "property.__get__")))
    (rcVP : PySem.W.takesIn K (.ref prVP) = some true)
    (rdVP : PySem.W.recIn K prVP "property" = some (.ref fVP :: rsVP))
    (lVP : K.lookup fVP = some ⟨ocVP, odVP, .func (PySem.W.fnOf "programs" "Ring.programs" (defArgs s_Ring_programs) (defBody s_Ring_programs) (defScope s_Ring_programs) .none kVVP dcVP pmVP anVP cdVP ctVP), slVP⟩)
    (cVP : PySem.W.codeIn K cdVP "Ring.programs" = true)
    (kVP : PySem.W.keepIn K (.ref fVP) = true)
    (raVW : PySem.W.findIn K (.ref RG) "wants" = some (some (.ref prVW)))
    (rbVW : PySem.W.specialIn K (.ref prVW) "__get__" = some (some (.builtin "property.__get__")))
    (rcVW : PySem.W.takesIn K (.ref prVW) = some true)
    (rdVW : PySem.W.recIn K prVW "property" = some (.ref fVW :: rsVW))
    (lVW : K.lookup fVW = some ⟨ocVW, odVW, .func (PySem.W.fnOf "wants" "Ring.wants" (defArgs s_Ring_wants) (defBody s_Ring_wants) (defScope s_Ring_wants) .none kVVW dcVW pmVW anVW cdVW ctVW), slVW⟩)
    (cVW : PySem.W.codeIn K cdVW "Ring.wants" = true)
    (kVW : PySem.W.keepIn K (.ref fVW) = true)
    (vD : K.lookup TD = some ⟨tcD, dtD, .seq itsD ntD, sqD⟩)
    (uD : itsD = #[.ref de])
    (vE : K.lookup de = some ⟨.type "tuple", dtE, .seq itsE ntE, sqE⟩)
    (uE : itsE = #[])
    (iTG : PySem.W.fnIn K fTG = true) :
    ∃ fd : FuncData, (∀ (s : Shared) (v : Value), BindsTo s fd ⟨[v], []⟩ [("_law_script", v)]) ∧ ∀ base : Heap, K.In base → base.Ns mainGlobals mg → FnOk l.prog w K mg base CX0 13 fa fd ["_law_script"] (spLaw K) := by
  cases hfa.symm.trans (PySem.W.mg_of X G a20)
  subst eL uD uE
  refine ⟨PySem.W.fnOf "law" "law" (defArgs s_law) (defBody s_law) (defScope s_law) .none kV20 dc20 pm20 an20 cd20 ct20, fun s v => .of_eq rfl, fun base _ _ => ?_⟩
  have hde : ∀ H : Hp, SqT K H de [] := fun H => .inr ⟨_, _, ntE, vE, rfl, rfl, by decide, .nil⟩
  have T1 : Bt mg tL tX3 := ⟨(PySem.W.mg_none_of X G z_isinstance), (PySem.W.mg_none_of X G z_str), (PySem.W.mg_none_of X G z_tuple), (PySem.W.mg_none_of X G z_list), (PySem.W.mg_none_of X G z_len), (PySem.W.mg_none_of X G z_all), (PySem.W.mg_none_of X G z_iter), (PySem.W.mg_none_of X G z_enumerate), (PySem.W.mg_of X G gL), (PySem.W.mg_of X G gX3)⟩
  have TG : BtG mg := ⟨(PySem.W.mg_none_of X G z_len), (PySem.W.mg_none_of X G z_int), (PySem.W.mg_none_of X G z_range), (PySem.W.mg_none_of X G z_list), (PySem.W.mg_none_of X G z_sorted), (PySem.W.mg_none_of X G z_tuple), (PySem.W.mg_none_of X G z_isinstance)⟩
  have TC : BtC mg := ⟨(PySem.W.mg_none_of X G z_len), (PySem.W.mg_none_of X G z_enumerate), (PySem.W.mg_none_of X G z_tuple), (PySem.W.mg_none_of X G z_range)⟩
  have TR : BtR mg := ⟨(PySem.W.mg_none_of X G z_list)⟩
  have TK : BtK mg RC := ⟨(PySem.W.mg_of X G aT)⟩
  have TY : BtY mg RC := ⟨(PySem.W.mg_none_of X G z_len), (PySem.W.mg_none_of X G z_list), (PySem.W.mg_none_of X G z_isinstance), (PySem.W.mg_of X G aT)⟩
  have OXO : OexC K OL := ⟨⟨nmO, qnO, NO, bsO, bmO, snO, sbO, abO, coO, ddO, m0O, m1O, m2O, m3O, m5O, xO, rO⟩, b1O, q1O, q3O, b4O⟩
  have ECO : ErrC K OL := ⟨OXO, b7O, b8O, b9, b10O⟩
  have CFO : CodeF K l.prog cdaO := ⟨⟨cxO, ceO, vsO, czO, fileO, tfO, b11O, b12O, b13O⟩, b14⟩
  have FXO : FunX K "__init__" "OtherLocks.__init__" s_OtherLocks_init feO _ ccO cdaO OL := ⟨⟨ocO, odO, kVO, dcO, pmO, anO, ctO, slO, rfl, lO, cO⟩, ⟨clO, cdO, csO, eO⟩, kO⟩
  have EXO : ExcC K OL := ⟨b17O, b18O, q1O, b19O, b25O, p12, p13, b26O⟩
  have GXO := ok_OtherLocks_init (P := l.prog) (w := w) (base := base) (mg := mg) (CX := L2.CX l.prog w) FXO ECO CFO (PySem.W.mg_none_of X G z_super)
  have ERO : Er0 l.prog w K mg base "OtherLocks" OL feO _ ["self"] := ⟨(PySem.W.mg_of X G aO), OXO, b5O, b6O, .all fun us hl => match us, hl with | [_], _ => rfl, GXO⟩
  have TL : BtL mg RC RG := ⟨(PySem.W.mg_none_of X G z_len), (PySem.W.mg_none_of X G z_int), (PySem.W.mg_none_of X G z_range), (PySem.W.mg_none_of X G z_list), (PySem.W.mg_none_of X G z_tuple), (PySem.W.mg_none_of X G z_isinstance), (PySem.W.mg_of X G aT), (PySem.W.mg_of X G aV)⟩
  have C : RuC K mg RC := ⟨(PySem.W.mg_of X G aT), ⟨p1T, p2T, p3T, p4T⟩, n0T, n1T⟩
  have CI : CiC K mg CC := ⟨(PySem.W.mg_of X G aU), ⟨p1U, p2U, p3U, p4U⟩, n0U, n1U, n2U, n3U, n4U⟩
  have RI : RiC K mg RG := ⟨(PySem.W.mg_of X G aV), ⟨p1V, p2V, p3V, p4V⟩, n0V, n1V, n2V, n3V⟩
  have IC : C8.InsC K RG := ⟨⟨p1V, p2V, p3V, p4V⟩, haV, p12, p13, hmV, kit_self⟩
  have ICR : C8.InsC K RC := ⟨⟨p1T, p2T, p3T, p4T⟩, haT, p12, p13, hmT, kit_self⟩
  have ne : CC ≠ RC := fun z => by rw [z] at eCR; exact absurd eCR (by simp)
  have F0 := fun_mk (st := s_is_name) l0 c0 k0
  have D0 : Df K mg "is_name" s_is_name ["value"] f0 _ := ⟨F0, PySem.W.mg_of X G a0, F0.binds (ps := ["value"]) fun _ _ _ _ _ _ us hl => match us, hl with | [_], _ => rfl⟩
  have F1 := fun_mk (st := s_all_held) l1 c1 k1
  have D1 : Df K mg "all_held" s_all_held ["locks"] f1 _ := ⟨F1, PySem.W.mg_of X G a1, F1.binds (ps := ["locks"]) fun _ _ _ _ _ _ us hl => match us, hl with | [_], _ => rfl⟩
  have F2 := fun_mk (st := s_all_entries) l2 c2 k2
  have D2 : Df K mg "all_entries" s_all_entries ["locks"] f2 _ := ⟨F2, PySem.W.mg_of X G a2, F2.binds (ps := ["locks"]) fun _ _ _ _ _ _ us hl => match us, hl with | [_], _ => rfl⟩
  have F3 := fun_mk (st := s_names_ahead) l3 c3 k3
  have D3 : Df K mg "names_ahead" s_names_ahead ["name", "held", "locks"] f3 _ := ⟨F3, PySem.W.mg_of X G a3, F3.binds (ps := ["name", "held", "locks"]) fun _ _ _ _ _ _ us hl => match us, hl with | [_, _, _], _ => rfl⟩
  have F4 := fun_mk (st := s_names_behind) l4 c4 k4
  have D4 : Df K mg "names_behind" s_names_behind ["name", "held", "locks"] f4 _ := ⟨F4, PySem.W.mg_of X G a4, F4.binds (ps := ["name", "held", "locks"]) fun _ _ _ _ _ _ us hl => match us, hl with | [_, _, _], _ => rfl⟩
  have F5 := fun_mk (st := s_check_same_locks) l5 c5 k5
  have D5 : Df K mg "check_same_locks" s_check_same_locks ["a", "b"] f5 _ := ⟨F5, PySem.W.mg_of X G a5, F5.binds (ps := ["a", "b"]) fun _ _ _ _ _ _ us hl => match us, hl with | [_, _], _ => rfl⟩
  have F6 := fun_mk (st := s_held_after) l6 c6 k6
  have D6 : Df K mg "held_after" s_held_after ["held", "name", "locks"] f6 _ := ⟨F6, PySem.W.mg_of X G a6, F6.binds (ps := ["held", "name", "locks"]) fun _ _ _ _ _ _ us hl => match us, hl with | [_, _, _], _ => rfl⟩
  have F7 := fun_mk (st := s_reachable) l7 c7 k7
  have D7 : Df K mg "reachable" s_reachable ["rule"] f7 _ := ⟨F7, PySem.W.mg_of X G a7, F7.binds (ps := ["rule"]) fun _ _ _ _ _ _ us hl => match us, hl with | [_], _ => rfl⟩
  have F8 := fun_mk (st := s_within) l8 c8 k8
  have D8 : Df K mg "within" s_within ["a", "b"] f8 _ := ⟨F8, PySem.W.mg_of X G a8, F8.binds (ps := ["a", "b"]) fun _ _ _ _ _ _ us hl => match us, hl with | [_, _], _ => rfl⟩
  have F9 := fun_mk (st := s_ring_of) l9 c9 k9
  have D9 : Df K mg "ring_of" s_ring_of ["rule"] f9 _ := ⟨F9, PySem.W.mg_of X G a9, F9.binds (ps := ["rule"]) fun _ _ _ _ _ _ us hl => match us, hl with | [_], _ => rfl⟩
  have F10 := fun_mk (st := s_law_cell) l10 c10 k10
  have D10 : Df K mg "_law_cell" s_law_cell ["_law_script", "_law_k"] f10 _ := ⟨F10, PySem.W.mg_of X G a10, F10.binds (ps := ["_law_script", "_law_k"]) fun _ _ _ _ _ _ us hl => match us, hl with | [_, _], _ => rfl⟩
  have F11 := fun_mk (st := s_law_mixed) l11 c11 k11
  have D11 : Df K mg "_law_mixed" s_law_mixed ["_law_cell_here", "_law_k"] f11 _ := ⟨F11, PySem.W.mg_of X G a11, F11.binds (ps := ["_law_cell_here", "_law_k"]) fun _ _ _ _ _ _ us hl => match us, hl with | [_, _], _ => rfl⟩
  have F12 := fun_mk (st := s_law_draws) l12 c12 k12
  have D12 : Df K mg "_law_draws" s_law_draws ["_law_cell_here", "_law_salt", "_law_count", "_law_many"] f12 _ := ⟨F12, PySem.W.mg_of X G a12, F12.binds (ps := ["_law_cell_here", "_law_salt", "_law_count", "_law_many"]) fun _ _ _ _ _ _ us hl => match us, hl with | [_, _, _, _], _ => rfl⟩
  have F13 := fun_mk (st := s_law_names) l13 c13 k13
  have D13 : Df K mg "_law_names" s_law_names ["_law_cell_here"] f13 _ := ⟨F13, PySem.W.mg_of X G a13, F13.binds (ps := ["_law_cell_here"]) fun _ _ _ _ _ _ us hl => match us, hl with | [_], _ => rfl⟩
  have F14 := fun_mk (st := s_law_helds) l14 c14 k14
  have D14 : Df K mg "_law_helds" s_law_helds ["_law_locks"] f14 _ := ⟨F14, PySem.W.mg_of X G a14, F14.binds (ps := ["_law_locks"]) fun _ _ _ _ _ _ us hl => match us, hl with | [_], _ => rfl⟩
  have F15 := fun_mk (st := s_law_entries) l15 c15 k15
  have D15 : Df K mg "_law_entries" s_law_entries ["_law_locks"] f15 _ := ⟨F15, PySem.W.mg_of X G a15, F15.binds (ps := ["_law_locks"]) fun _ _ _ _ _ _ us hl => match us, hl with | [_], _ => rfl⟩
  have F16 := fun_mk (st := s_law_is_rule) l16 c16 k16
  have D16 : Df K mg "_law_is_rule" s_law_is_rule ["_law_rule", "_law_locks", "_law_due"] f16 _ := ⟨F16, PySem.W.mg_of X G a16, F16.binds (ps := ["_law_rule", "_law_locks", "_law_due"]) fun _ _ _ _ _ _ us hl => match us, hl with | [_, _, _], _ => rfl⟩
  have F17 := fun_mk (st := s_law_rising) l17 c17 k17
  have D17 : Df K mg "_law_rising" s_law_rising ["_law_locks", "_law_order"] f17 _ := ⟨F17, PySem.W.mg_of X G a17, F17.binds (ps := ["_law_locks", "_law_order"]) fun _ _ _ _ _ _ us hl => match us, hl with | [_, _], _ => rfl⟩
  have F18 := fun_mk (st := s_law_gate) l18 c18 k18
  have D18 : Df K mg "_law_gate" s_law_gate ["_law_locks", "_law_first"] f18 _ := ⟨F18, PySem.W.mg_of X G a18, F18.binds (ps := ["_law_locks", "_law_first"]) fun _ _ _ _ _ _ us hl => match us, hl with | [_, _], _ => rfl⟩
  have F19 := fun_mk (st := s_law_free_of_rings) l19 c19 k19
  have D19 : Df K mg "_law_free_of_rings" s_law_free_of_rings ["_law_rule", "_law_some"] f19 _ := ⟨F19, PySem.W.mg_of X G a19, F19.binds (ps := ["_law_rule", "_law_some"]) fun _ _ _ _ _ _ us hl => match us, hl with | [_, _], _ => rfl⟩
  have F20 := fun_mk (st := s_law) l20 c20 k20
  have D20 : Df K mg "law" s_law ["_law_script"] fa _ := ⟨F20, PySem.W.mg_of X G a20, F20.binds (ps := ["_law_script"]) fun _ _ _ _ _ _ us hl => match us, hl with | [_], _ => rfl⟩
  have FTI : FunD K "__init__" "Rule.__init__" (defArgs s_Rule_init) (defBody s_Rule_init) (defScope s_Rule_init) [V.ref de] [] fTI _ := ⟨⟨ocTI, odTI, .ref TD, kVTI, dcTI, pmTI, anTI, cdTI, ctTI, slTI, rfl, lTI, cTI, .inr ⟨fun z => (nomatch z), TD, _, [.ref de], ntD, rfl, vD, rfl, .cons rfl .nil⟩, .inl rfl⟩, kTI⟩
  obtain ⟨ds1, hds1, bI⟩ := FTI.binds1 (ps := ["self", "locks", "entries"]) 3 1 (fun z => nomatch z) rfl fun T kV doc pm an cdv ct us its h1 h2 => match us, h1, its, h2 with | [_, _, _], _, [_], _ => ⟨_, rfl, rfl⟩
  cases hds1
  obtain ⟨ds, hds, bD⟩ := FTI.binds1 (ps := ["self", "locks", "entries"]) 2 0 (fun z => nomatch z) rfl fun T kV doc pm an cdv ct us its h1 h2 => match us, h1, its, h2 with | [_, _], _, [_], _ => ⟨_, rfl, rfl⟩
  have FTN := fun_mk (st := s_Rule_len) lTN cTN kTN
  have bTN : Binds K _ ["self"] [] := FTN.binds (ps := ["self"]) fun _ _ _ _ _ _ us hl => match us, hl with | [_], _ => rfl
  have FTT := fun_mk (st := s_Rule_iter) lTT cTT kTT
  have bTT : Binds K _ ["self"] [] := FTT.binds (ps := ["self"]) fun _ _ _ _ _ _ us hl => match us, hl with | [_], _ => rfl
  have FTG := fun_mk (st := s_Rule_getitem) lTG cTG kTG
  have bTG : Binds K _ ["self", "at"] [] := FTG.binds (ps := ["self", "at"]) fun _ _ _ _ _ _ us hl => match us, hl with | [_, _], _ => rfl
  have FTC := fun_mk (st := s_Rule_contains) lTC cTC kTC
  have bTC : Binds K _ ["self", "x"] [] := FTC.binds (ps := ["self", "x"]) fun _ _ _ _ _ _ us hl => match us, hl with | [_, _], _ => rfl
  have FTA := fun_mk (st := s_Rule_and) lTA cTA kTA
  have bTA : Binds K _ ["self", "other"] [] := FTA.binds (ps := ["self", "other"]) fun _ _ _ _ _ _ us hl => match us, hl with | [_, _], _ => rfl
  have FTK := fun_mk (st := s_Rule_locks) lTK cTK kTK
  have bTK : Binds K _ ["self"] [] := FTK.binds (ps := ["self"]) fun _ _ _ _ _ _ us hl => match us, hl with | [_], _ => rfl
  have FSE := fun_mk (st := s_Rule_every) lSE cSE kSE
  have bSE : Binds K _ ["locks"] [] := FSE.binds (ps := ["locks"]) fun _ _ _ _ _ _ us hl => match us, hl with | [_], _ => rfl
  have STSE : StaC K RC (.type "type") "every" pSE fSE := ⟨mS1, mS2, m3SE, ⟨restSE, m4SE⟩, kSE⟩
  have FSR := fun_mk (st := s_Rule_rising) lSR cSR kSR
  have bSR : Binds K _ ["locks"] [] := FSR.binds (ps := ["locks"]) fun _ _ _ _ _ _ us hl => match us, hl with | [_], _ => rfl
  have STSR : StaC K RC (.type "type") "rising" pSR fSR := ⟨mS1, mS2, m3SR, ⟨restSR, m4SR⟩, kSR⟩
  have FSG := fun_mk (st := s_Rule_gate) lSG cSG kSG
  have bSG : Binds K _ ["locks"] [] := FSG.binds (ps := ["locks"]) fun _ _ _ _ _ _ us hl => match us, hl with | [_], _ => rfl
  have STSG : StaC K RC (.type "type") "gate" pSG fSG := ⟨mS1, mS2, m3SG, ⟨restSG, m4SG⟩, kSG⟩
  have FUI := fun_mk (st := s_Circle_init) lUI cUI kUI
  have bUI : Binds K _ ["self", "rule", "many"] [] := FUI.binds (ps := ["self", "rule", "many"]) fun _ _ _ _ _ _ us hl => match us, hl with | [_, _, _], _ => rfl
  have FUL := fun_mk (st := s_Circle_look) lUL cUL kUL
  have bUL : Binds K _ ["self", "helds"] [] := FUL.binds (ps := ["self", "helds"]) fun _ _ _ _ _ _ us hl => match us, hl with | [_, _], _ => rfl
  have FUW := fun_mk (st := s_Circle_wants_at) lUW cUW kUW
  have bUW : Binds K _ ["self", "helds"] [] := FUW.binds (ps := ["self", "helds"]) fun _ _ _ _ _ _ us hl => match us, hl with | [_, _], _ => rfl
  have FUR := fun_mk (st := s_Circle_ring) lUR cUR kUR
  have bUR : Binds K _ ["self"] [] := FUR.binds (ps := ["self"]) fun _ _ _ _ _ _ us hl => match us, hl with | [_], _ => rfl
  have FVI := fun_mk (st := s_Ring_init) lVI cVI kVI
  have bVI : Binds K _ ["self", "locks", "programs", "wants", "order"] [] := FVI.binds (ps := ["self", "locks", "programs", "wants", "order"]) fun _ _ _ _ _ _ us hl => match us, hl with | [_, _, _, _, _], _ => rfl
  have FVP := fun_mk (st := s_Ring_programs) lVP cVP kVP
  have bVP : Binds K _ ["self"] [] := FVP.binds (ps := ["self"]) fun _ _ _ _ _ _ us hl => match us, hl with | [_], _ => rfl
  have PRVP : PropOf K RG "programs" prVP fVP := ⟨raVP, rbVP, rcVP, ⟨rsVP, rdVP⟩⟩
  have FVW := fun_mk (st := s_Ring_wants) lVW cVW kVW
  have bVW : Binds K _ ["self"] [] := FVW.binds (ps := ["self"]) fun _ _ _ _ _ _ us hl => match us, hl with | [_], _ => rfl
  have PRVW : PropOf K RG "wants" prVW fVW := ⟨raVW, rbVW, rcVW, ⟨rsVW, rdVW⟩⟩
  have MT : Mk K RC fTI := ⟨p5T, mTI, hTI, p9T⟩
  have MU : Mk K CC fUI := ⟨p5U, mUI, hUI, p9U⟩
  have MV : Mk K RG fVI := ⟨p5V, mVI, hVI, p9V⟩
  have METK : Meth K RC _ fTK := ⟨mTK, hTK, kTK⟩
  have MEUL : Meth K CC _ fUL := ⟨mUL, hUL, kUL⟩
  have MEUW : Meth K CC _ fUW := ⟨mUW, hUW, kUW⟩
  have MEUR : Meth K CC _ fUR := ⟨mUR, hUR, kUR⟩
  have LN : LenC K RC fTN := ⟨mTN, hTN⟩
  have IT : IterC K RC fTT fTN := ⟨mTT, hTT, LN⟩
  have IR : ItrC K RC fTT := ⟨mTT, hTT⟩
  have BA : BinC K RC fTA .BitAnd := ⟨p6T, mTA, hTA⟩
  have GC : GetC K RC fTG := ⟨mTG, hTG, iTG⟩
  have IN : InC K RC fTC := ⟨mTC, hTC⟩
  have G0 := ok_is_name (P := l.prog) (w := w) (base := base) D0 T1
  have G3 := ok_names_ahead (P := l.prog) (w := w) (base := base) D3 T1
  have G1 := ok_all_held (P := l.prog) (w := w) (base := base) D1 T1 D3 G3
  have G2 := ok_all_entries (P := l.prog) (w := w) (base := base) D2 D1 G1
  have G4 := ok_names_behind (P := l.prog) (w := w) (base := base) D4 T1
  have G6 := ok_held_after (P := l.prog) (w := w) (base := base) D6 T1
  have GTI := ok_Rule_init (P := l.prog) (w := w) (base := base) FTI T1 C D2 G2 D0 G0
  have GTN := ok_Rule_len (P := l.prog) (w := w) (base := base) FTN T1 C
  have GTT := ok_Rule_iter (P := l.prog) (w := w) (base := base) FTT T1 C
  have GTZ := ok_Rule_iterN (P := l.prog) (w := w) (base := base) FTT T1 C
  have GTK := ok_Rule_locks (P := l.prog) (w := w) (base := base) FTK T1 C
  have GTC := ok_Rule_contains (P := l.prog) (w := w) (base := base) FTC C
  have GTG := ok_Rule_getitem (P := l.prog) (w := w) (base := base) FTG T1 C D1 G1
  have G7 := ok_reachable (P := l.prog) (w := w) (base := base) D7 T1 C D6 G6 D1 G1 GC bTG GTG METK bTK GTK
  have G5 := ok_check_same_locks (P := l.prog) (w := w) (base := base) D5 C ERO METK bTK GTK
  have G8 := ok_within (P := l.prog) (w := w) (base := base) D8 T1 C D5 G5 D7 G7 GC bTG GTG IN bTC GTC
  have GTA := ok_Rule_and (P := l.prog) (w := w) (base := base) FTA TG C D5 G5 MT bI GTI
  have GSE := ok_Rule_every (P := l.prog) (w := w) (base := base) FSE C hde D2 G2 MT bI hds bD GTI METK bTK GTK
  have GSR := ok_Rule_rising (P := l.prog) (w := w) (base := base) FSR C TK STSE bSE GSE D4 G4 MT bI GTI IR bTT GTZ
  have GSG := ok_Rule_gate (P := l.prog) (w := w) (base := base) FSG C TK STSE bSE GSE MT bI GTI IR bTT GTZ
  have GUW := ok_Circle_wants_at (P := l.prog) (w := w) (base := base) FUW TC CI C ne GC GTG bTG
  have GUL := ok_Circle_look (P := l.prog) (w := w) (base := base) FUL TC CI C ne GC GTG bTG D6 G6 MEUW bUW GUW
  have GUI := ok_Circle_init (P := l.prog) (w := w) (base := base) FUI TC CI C ne METK bTK GTK MEUL bUL GUL
  have GVI := ok_Ring_init (P := l.prog) (w := w) (base := base) FVI TR RI
  have GVP := ok_Ring_programs (P := l.prog) (w := w) (base := base) FVP TR RI
  have GVW := ok_Ring_wants (P := l.prog) (w := w) (base := base) FVW TR RI
  have GUR := ok_Circle_ring (P := l.prog) (w := w) (base := base) FUR TC CI C RI ne MEUW bUW GUW MV bVI GVI
  have G9 := ok_ring_of (P := l.prog) (w := w) (base := base) D9 TC CI C ne METK bTK GTK MU bUI GUI MEUR bUR GUR
  have G10 := ok_law_cell (P := l.prog) (w := w) (base := base) D10 TG
  have G11 := ok_law_mixed (P := l.prog) (w := w) (base := base) D11 TG
  have G12 := ok_law_draws (P := l.prog) (w := w) (base := base) D12 TG D11 G11
  have G13 := ok_law_names (P := l.prog) (w := w) (base := base) D13 TG D12 G12
  have G14 := ok_law_helds (P := l.prog) (w := w) (base := base) D14 TG
  have G15 := ok_law_entries (P := l.prog) (w := w) (base := base) D15 TG D14 G14
  have G16 := ok_law_is_rule (P := l.prog) (w := w) (base := base) D16 TY C ICR D14 G14 METK bTK GTK IT bTT GTT LN bTN GTN GC bTG GTG
  have G17 := ok_law_rising (P := l.prog) (w := w) (base := base) D17 TY D15 G15
  have G18 := ok_law_gate (P := l.prog) (w := w) (base := base) D18 TY D15 G15
  have G19 := ok_law_free_of_rings (P := l.prog) (w := w) (base := base) D19 D9 G9 BA bTA GTA
  exact ok_law (P := l.prog) (w := w) (base := base) D20 TL C RI IC D13 G13 D10 G10 D12 G12 D15 G15 D16 G16 D9 G9 D17 G17 D18 G18 D19 G19 D8 G8 STSE bSE GSE STSR bSR GSR STSG bSG GSG PRVP bVP GVP PRVW bVW GVW MT bI GTI
theorem walk {l : PySem.W.OpenLaw} {q : Program} {loose : List Str} {XP : (Str → Option Value) → Heap → Prop} {YP : World → Heap → Prop} {d : DefRec} {K : Params → PySem.W.Frag} (hn : l.most = some 63) (hdf : d.params.defaults = [])
    (hY : ∀ (w : World) (h : Heap), YP w h → (K w.params).In h)
    (F : ∀ (w : World) (mg : Str → Option Value) (fa : Addr) (h : Heap), (K w.params).In h → h.Ns mainGlobals mg → mg d.name = some (.ref fa) →
      ∃ fd : FuncData, (∀ (s : Shared) (u : Value), BindsTo s fd ⟨[u], []⟩ [("_law_script", u)]) ∧ ∀ base : Heap, (K w.params).In base → base.Ns mainGlobals mg → FnOk l.prog w (K w.params) mg base CX0 13 fa fd ["_law_script"] (spLaw (K w.params))) :
    PySem.W.WalkO q loose XP YP l.row.toRowW d [] (fun f vs => PySem.call f vs) :=
  L2.walk_of (n := 63) (k := 13) (x := "_law_script") (CX := fun _ => CX0) (sp := fun w => spLaw (K w.params)) hn (by decide) hdf ⟨rfl, by decide, by decide⟩ hY F (fun _ _ a ns hl _ hS => ⟨a, ns, rfl, ⟨hS, hl⟩, fun _ => rfl⟩) fun _ _ _ _ _ z => z
end My
open PySem PySem.W PyProof.Rows in
set_option maxRecDepth 100000 in
set_option maxHeartbeats 0 in
theorem PySem.Challenge.cw_coretower_k45_usual_rules_holds : PySem.Challenge.rw_coretower_k45_usual_rules.Holds := by
  w_on; o_law; k_head; (case hw => w_witness2)
  k_fill
  refine My.walk (l := PySem.Challenge.rw_coretower_k45_usual_rules) rfl rfl (fun w h Y => PySem.W.kIn_of Y) ?F
  case F =>
    intro w mg fa h KX G hmg
    refine' My.all_mk KX G hmg ?a0 ?l0 ?c0 ?k0 ?a1 ?l1 ?c1 ?k1 ?a2 ?l2 ?c2 ?k2 ?a3 ?l3 ?c3 ?k3 ?a4 ?l4 ?c4 ?k4 ?a5 ?l5 ?c5 ?k5 ?a6 ?l6 ?c6 ?k6 ?a7 ?l7 ?c7 ?k7 ?a8 ?l8 ?c8 ?k8 ?a9 ?l9 ?c9 ?k9 ?a10 ?l10 ?c10 ?k10 ?a11 ?l11 ?c11 ?k11 ?a12 ?l12 ?c12 ?k12 ?a13 ?l13 ?c13 ?k13 ?a14 ?l14 ?c14 ?k14 ?a15 ?l15 ?c15 ?k15 ?a16 ?l16 ?c16 ?k16 ?a17 ?l17 ?c17 ?k17 ?a18 ?l18 ?c18 ?k18 ?a19 ?l19 ?c19 ?k19 ?a20 ?l20 ?c20 ?k20 ?z_isinstance ?z_str ?z_tuple ?z_list ?z_len ?z_all ?z_iter ?z_enumerate ?z_int ?z_range ?z_sorted ?z_super ?gL ?eL ?gX3 ?aT ?p1T ?p2T ?p3T ?p4T ?n0T ?n1T ?p9T ?aU ?p1U ?p2U ?p3U ?p4U ?n0U ?n1U ?n2U ?n3U ?n4U ?p9U ?aV ?p1V ?p2V ?p3V ?p4V ?n0V ?n1V ?n2V ?n3V ?p9V ?p5T ?p5U ?p5V ?eCR ?haT ?hmT ?haV ?hmV ?aO ?xO ?rO ?b1O ?q1O ?q2O ?q3O ?b4O ?b5O ?b6O ?lO ?cO ?kO ?eO ?b7O ?b8O ?b9 ?b14 ?b31 ?p12 ?p13 ?b10O ?b11O ?b12O ?b13O ?b17O ?b18O ?b19O ?b25O ?b26O ?p6T ?mTI ?hTI ?lTI ?cTI ?kTI ?mTN ?hTN ?lTN ?cTN ?kTN ?mTT ?hTT ?lTT ?cTT ?kTT ?mTG ?hTG ?lTG ?cTG ?kTG ?mTC ?hTC ?lTC ?cTC ?kTC ?mTA ?hTA ?lTA ?cTA ?kTA ?mTK ?hTK ?lTK ?cTK ?kTK ?mS1 ?mS2 ?m3SE ?m4SE ?lSE ?cSE ?kSE ?m3SR ?m4SR ?lSR ?cSR ?kSR ?m3SG ?m4SG ?lSG ?cSG ?kSG ?mUI ?hUI ?lUI ?cUI ?kUI ?mUL ?hUL ?lUL ?cUL ?kUL ?mUW ?hUW ?lUW ?cUW ?kUW ?mUR ?hUR ?lUR ?cUR ?kUR ?mVI ?hVI ?lVI ?cVI ?kVI ?raVP ?rbVP ?rcVP ?rdVP ?lVP ?cVP ?kVP ?raVW ?rbVW ?rcVW ?rdVW ?lVW ?cVW ?kVW ?vD ?uD ?vE ?uE ?iTG
    (case a0 => k_is)
    (case l0 => k_is)
    (case c0 => k_is)
    (case k0 => k_is)
    (case a1 => k_is)
    (case l1 => k_is)
    (case c1 => k_is)
    (case k1 => k_is)
    (case a2 => k_is)
    (case l2 => k_is)
    (case c2 => k_is)
    (case k2 => k_is)
    (case a3 => k_is)
    (case l3 => k_is)
    (case c3 => k_is)
    (case k3 => k_is)
    (case a4 => k_is)
    (case l4 => k_is)
    (case c4 => k_is)
    (case k4 => k_is)
    (case a5 => k_is)
    (case l5 => k_is)
    (case c5 => k_is)
    (case k5 => k_is)
    (case a6 => k_is)
    (case l6 => k_is)
    (case c6 => k_is)
    (case k6 => k_is)
    (case a7 => k_is)
    (case l7 => k_is)
    (case c7 => k_is)
    (case k7 => k_is)
    (case a8 => k_is)
    (case l8 => k_is)
    (case c8 => k_is)
    (case k8 => k_is)
    (case a9 => k_is)
    (case l9 => k_is)
    (case c9 => k_is)
    (case k9 => k_is)
    (case a10 => k_is)
    (case l10 => k_is)
    (case c10 => k_is)
    (case k10 => k_is)
    (case a11 => k_is)
    (case l11 => k_is)
    (case c11 => k_is)
    (case k11 => k_is)
    (case a12 => k_is)
    (case l12 => k_is)
    (case c12 => k_is)
    (case k12 => k_is)
    (case a13 => k_is)
    (case l13 => k_is)
    (case c13 => k_is)
    (case k13 => k_is)
    (case a14 => k_is)
    (case l14 => k_is)
    (case c14 => k_is)
    (case k14 => k_is)
    (case a15 => k_is)
    (case l15 => k_is)
    (case c15 => k_is)
    (case k15 => k_is)
    (case a16 => k_is)
    (case l16 => k_is)
    (case c16 => k_is)
    (case k16 => k_is)
    (case a17 => k_is)
    (case l17 => k_is)
    (case c17 => k_is)
    (case k17 => k_is)
    (case a18 => k_is)
    (case l18 => k_is)
    (case c18 => k_is)
    (case k18 => k_is)
    (case a19 => k_is)
    (case l19 => k_is)
    (case c19 => k_is)
    (case k19 => k_is)
    (case a20 => k_is)
    (case l20 => k_is)
    (case c20 => k_is)
    (case k20 => k_is)
    (case z_isinstance => k_is)
    (case z_str => k_is)
    (case z_tuple => k_is)
    (case z_list => k_is)
    (case z_len => k_is)
    (case z_all => k_is)
    (case z_iter => k_is)
    (case z_enumerate => k_is)
    (case z_int => k_is)
    (case z_range => k_is)
    (case z_sorted => k_is)
    (case z_super => k_is)
    (case gL => k_is)
    (case eL => decide +kernel)
    (case gX3 => k_is)
    (case aT => k_is)
    (case p1T => k_is)
    (case p2T => k_is)
    (case p3T => k_is)
    (case p4T => k_is)
    (case n0T => k_is)
    (case n1T => k_is)
    (case p9T => k_is)
    (case aU => k_is)
    (case p1U => k_is)
    (case p2U => k_is)
    (case p3U => k_is)
    (case p4U => k_is)
    (case n0U => k_is)
    (case n1U => k_is)
    (case n2U => k_is)
    (case n3U => k_is)
    (case n4U => k_is)
    (case p9U => k_is)
    (case aV => k_is)
    (case p1V => k_is)
    (case p2V => k_is)
    (case p3V => k_is)
    (case p4V => k_is)
    (case n0V => k_is)
    (case n1V => k_is)
    (case n2V => k_is)
    (case n3V => k_is)
    (case p9V => k_is)
    (case p5T => k_is)
    (case p5U => k_is)
    (case p5V => k_is)
    (case eCR => decide +kernel)
    (case haT => k_is)
    (case hmT => k_is)
    (case haV => k_is)
    (case hmV => k_is)
    (case aO => k_is)
    (case xO => k_is)
    (case rO => decide +kernel)
    (case b1O => k_is)
    (case q1O => k_is)
    (case q2O => k_is)
    (case q3O => k_is)
    (case b4O => k_is)
    (case b5O => k_is)
    (case b6O => k_is)
    (case lO => k_is)
    (case cO => k_is)
    (case kO => k_is)
    (case eO => k_is)
    (case b7O => ks_is)
    (case b8O => k_is)
    (case b9 => k_is)
    (case b14 => first | rfl | decide +kernel)
    (case b31 => decide +kernel)
    (case p12 => k_is)
    (case p13 => k_is)
    (case b10O => k_is)
    (case b11O => k_is)
    (case b12O => rfl)
    (case b13O => first | rfl | decide +kernel)
    (case b17O => k_is)
    (case b18O => k_is)
    (case b19O => k_is)
    (case b25O => k_is)
    (case b26O => k_is)
    (case p6T => k_is)
    (case mTI => k_is)
    (case hTI => k_is)
    (case lTI => k_is)
    (case cTI => k_is)
    (case kTI => k_is)
    (case mTN => k_is)
    (case hTN => k_is)
    (case lTN => k_is)
    (case cTN => k_is)
    (case kTN => k_is)
    (case mTT => k_is)
    (case hTT => k_is)
    (case lTT => k_is)
    (case cTT => k_is)
    (case kTT => k_is)
    (case mTG => k_is)
    (case hTG => k_is)
    (case lTG => k_is)
    (case cTG => k_is)
    (case kTG => k_is)
    (case mTC => k_is)
    (case hTC => k_is)
    (case lTC => k_is)
    (case cTC => k_is)
    (case kTC => k_is)
    (case mTA => k_is)
    (case hTA => k_is)
    (case lTA => k_is)
    (case cTA => k_is)
    (case kTA => k_is)
    (case mTK => k_is)
    (case hTK => k_is)
    (case lTK => k_is)
    (case cTK => k_is)
    (case kTK => k_is)
    (case mS1 => k_is)
    (case mS2 => k_is)
    (case m3SE => k_is)
    (case m4SE => k_is)
    (case lSE => k_is)
    (case cSE => k_is)
    (case kSE => k_is)
    (case m3SR => k_is)
    (case m4SR => k_is)
    (case lSR => k_is)
    (case cSR => k_is)
    (case kSR => k_is)
    (case m3SG => k_is)
    (case m4SG => k_is)
    (case lSG => k_is)
    (case cSG => k_is)
    (case kSG => k_is)
    (case mUI => k_is)
    (case hUI => k_is)
    (case lUI => k_is)
    (case cUI => k_is)
    (case kUI => k_is)
    (case mUL => k_is)
    (case hUL => k_is)
    (case lUL => k_is)
    (case cUL => k_is)
    (case kUL => k_is)
    (case mUW => k_is)
    (case hUW => k_is)
    (case lUW => k_is)
    (case cUW => k_is)
    (case kUW => k_is)
    (case mUR => k_is)
    (case hUR => k_is)
    (case lUR => k_is)
    (case cUR => k_is)
    (case kUR => k_is)
    (case mVI => k_is)
    (case hVI => k_is)
    (case lVI => k_is)
    (case cVI => k_is)
    (case kVI => k_is)
    (case raVP => k_is)
    (case rbVP => k_is)
    (case rcVP => k_is)
    (case rdVP => k_is)
    (case lVP => k_is)
    (case cVP => k_is)
    (case kVP => k_is)
    (case raVW => k_is)
    (case rbVW => k_is)
    (case rcVW => k_is)
    (case rdVW => k_is)
    (case lVW => k_is)
    (case cVW => k_is)
    (case kVW => k_is)
    (case vD => k_is)
    (case uD => exact rfl)
    (case vE => k_is)
    (case uE => exact rfl)
    (case iTG => k_is)

