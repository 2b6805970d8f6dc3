/- Nothing of the shelf is reached. -/
import Derived.Lib.BitFns
import Derived.Test.YtffkdmaedojcjaaProg
